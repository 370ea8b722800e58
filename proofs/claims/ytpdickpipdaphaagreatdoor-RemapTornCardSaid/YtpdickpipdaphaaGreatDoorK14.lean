/- Layers' contracts, bundled: Torn, TornB, TornC, TornD, TornE. -/
import Derived.Test.YtpdickpipdaphaaGreatDoorK11
import Derived.Test.YtpdickpipdaphaaGreatDoorK12
/- Layer 7's law RemapTorn: mathematics of torn images. -/
namespace Go.Proofs.YtpdickpipdaphaaGreatDoor.Rem
open Go Go.RowKit Go.Proofs.YtpdickpipdaphaaGreatDoor Dev Tab Env Lend
set_option linter.unusedVariables false

/-! ### checks of tables: four numbers below 16, two bytes each -/
def ltab : List Nat := [0, 1228700967, 2457401934, 3678701417, 555582061, 1747058506, 3009771555, 4200137988, 1111164122, 185039357, 3494117012, 2575270835, 1663469239, 706411408, 4049501433, 3093430750, 4012927769, 2785809982, 2101907799, 880077936, 3459115380, 2266076243, 1549079354, 359231005, 2903207875, 3828814564, 1064539533, 1984948394, 2350312878, 3307901065, 510531552, 1465019079, 3683426499, 2461064676, 1240750733, 13117354, 4203815598, 3014483849, 1760155872, 567649735, 2578949145, 3498826046, 198139479, 1123230576, 3098158708, 4053162835, 718462010, 1676583197, 884788186, 2105587453, 2797875604, 4026027187, 362891703, 1553806480, 2279191545, 3471167198, 1988611840, 1069265447, 3841930574, 2915256425, 1469730157, 514207818, 3319969571, 2363410948, 3002414967, 4224272976, 546164025, 1773252638, 2481501466, 3671377981, 26234708, 1219244659, 4040045485, 3119664778, 1656146403, 730510532, 3520311744, 2565852391, 1135299470, 177682089, 1573215342, 351871305, 3485312544, 2256657159, 2094587395, 904176420, 4003472461, 2812041578, 536762548, 1455564179, 2374411002, 3300581341, 1055120089, 2011146238, 2895847575, 3852950960, 1769576372, 541452947, 4211174906, 2990346461, 1214518745, 22571262, 3659329431, 2468385456, 725783406, 1652485705, 3107612960, 4026930183, 174002435, 1130589220, 2552752973, 3508246122, 2252995757, 3480584586, 338757347, 1561164740, 2807332544, 3999794151, 892109966, 2081487273, 3295869047, 2370733392, 1443496505, 523665182, 3849288218, 2891122493, 1998028884, 1043070323, 1611012127, 691692856, 4068401745, 3141705590, 1092328050, 136832853, 3546505276, 2589924635, 574430405, 1795252706, 2957371019, 4185496492, 52469416, 1243407247, 2438489318, 3630438849, 2402710278, 3322547745, 491686216, 1416819823, 2922115435, 3877080140, 1012075301, 1970238978, 3440211932, 2217806587, 1601539474, 373944501, 3960534449, 2771159190, 2120749055, 928281304, 3146430684, 4072064507, 703742610, 1624129461, 2593602225, 3551217558, 149930239, 1104395736, 4189174790, 2962080033, 1808352840, 586496879, 3635166827, 2442150732, 1255457829, 65583362, 1421530053, 495365858, 3334613387, 2415809708, 1973899688, 1016802447, 3890195430, 2934167233, 377607967, 1606265400, 2230922577, 3452260470, 932992370, 2124425301, 2783227708, 3973632539, 3539152744, 2614055503, 1082905894, 163031041, 4092505349, 3134378018, 1637242699, 682240620, 2429037490, 3656668821, 45142524, 1267510491, 2983569887, 4176073976, 598561681, 1787899574, 1036207217, 1962883414, 2948316735, 3867656984, 484361756, 1440922427, 2393259090, 3348775285, 2146975915, 918830476, 3984636645, 2763835330, 1592115910, 400146401, 3432855688, 2241938863, 159354795, 1078194828, 2600957413, 3527084226, 677514694, 1633579233, 3122329480, 4079389359, 1262783345, 41481814, 3644617023, 2415922200, 1784219932, 593851451, 4162974546, 2971504245, 3863995570, 2943588757, 1949769468, 1024156635, 3344066271, 2389580792, 1428855953, 471261622, 2759123048, 3980959055, 906762790, 2133878529, 2238276101, 3428130594, 387029067, 1580066156]
def rtab : List Nat := [0, 3712330424, 3211207553, 1646430521, 2065838579, 2791807819, 3292861042, 419477706, 4131677158, 721537374, 1227047015, 2489772767, 2372293141, 1344534701, 838955412, 4014267180, 329422967, 3471258319, 2898639862, 1904218446, 1753262468, 3049587516, 3622275589, 178397373, 3857120145, 950227241, 1518458896, 2277798568, 2663696994, 1132552410, 564390371, 4242948955, 658845934, 4194343510, 2552370031, 1164425687, 1550254365, 2166533029, 3808436892, 1044744228, 3506524936, 205846960, 1852207241, 3005471281, 2854445819, 2003224643, 356794746, 3355569090, 887597209, 3919708705, 2340457240, 1455759776, 1338349930, 2457875410, 4037196523, 770117715, 3265514367, 535192007, 2110056702, 2692825670, 3112303244, 1690587188, 115792141, 3684922293, 1317691868, 2479868772, 4058858077, 749267173, 900223023, 3907910295, 2328851374, 1468717334, 3100508730, 1703651458, 128524731, 3672935171, 3287036873, 514431345, 2089488456, 2714680048, 1562966443, 2154648339, 3796884010, 1057648786, 638240856, 4216283872, 2574117849, 1143488865, 2876021325, 1982410997, 336312780, 3377337204, 3494816702, 218824966, 1864992831, 2993431175, 1775194418, 3029007242, 3601363635, 200136715, 317546689, 3483945593, 2911519552, 1892674040, 2676699860, 1120835692, 552341845, 4255759341, 3836281639, 971811231, 1540235430, 2257291806, 2054015301, 2804442109, 3305827012, 407847036, 22018230, 3691663886, 3190348599, 1668116879, 2351540899, 1366032411, 860784930, 3993707418, 4144733008, 709767656, 1215084753, 2502496873, 2635383736, 1079077120, 578019385, 4281748097, 3862360651, 997415155, 1498534346, 2215934834, 1800446046, 3054832358, 3560408031, 158476647, 275943853, 3442948885, 2937434668, 1917851796, 2394315727, 1408495991, 835811406, 3969176310, 4120144444, 684834948, 1257458109, 2545345285, 2029140009, 2780271249, 3348437928, 449884432, 63965658, 3734348642, 3166120539, 1643282659, 3125932886, 1729386990, 87478487, 3631446639, 3245589157, 473327645, 2115297572, 2740013980, 1276481712, 2437954056, 4084380465, 775362953, 926392643, 3933342715, 2286977730, 1427449978, 2851302177, 1958134169, 378816672, 3419529752, 3536935634, 261419114, 1840675155, 2968769515, 1605830855, 2196939391, 3771738950, 1033208318, 613759284, 4191196044, 2616335029, 1186443277, 3550388836, 249235676, 1828291045, 2981899101, 2830930839, 1979267375, 400273430, 3399359150, 635093378, 4171197242, 2596135427, 1207453883, 1593372785, 2210224841, 3785348080, 1020950856, 3225172499, 494506155, 2136676754, 2719920938, 3139308512, 1717281112, 75049057, 3644621529, 913857013, 3946705741, 2300541556, 1415237836, 1297770502, 2418000574, 4064103303, 796451135, 4108030602, 698234930, 1270657291, 2532907955, 2415502201, 1388054977, 815694072, 3990563392, 44036460, 3755629524, 3187200749, 1623029845, 2042478751, 2767743527, 3336233758, 463423910, 3883469565, 977051717, 1478371708, 2237367236, 2623224590, 1092522422, 591141007, 4269388343, 289237275, 3430466467, 2925152922, 1931468834, 1780439272, 3076190800, 3581442921, 138269137]
def lf (a : Nat) : Nat := Sum.stps 64 (a % 16 + 65536 * (a / 16))
def rf (a : Nat) : Nat := Sum.stps 64 (4294967296 * (a % 16 + 65536 * (a / 16)))
theorem ltab_eq : (List.range 256).map lf = ltab := by kernel_rfl
theorem rtab_eq : (List.range 256).map rf = rtab := by kernel_rfl
theorem tabs_apart : (ltab.tail.all fun x => rtab.all fun y => !(x == y)) = true := by kernel_rfl
theorem rtab_not0 : (rtab.tail.all fun y => !(y == 0)) = true := by kernel_rfl
theorem lf_zero : lf 0 = 0 := by kernel_rfl
theorem mem_tail {f : Nat → Nat} {t : List Nat} (h : (List.range 256).map f = t) {a : Nat} (ha : a < 256) (h0 : a ≠ 0) : f a ∈ t.tail := by
  rw [← h, ← List.map_tail]
  refine List.mem_map.2 ⟨a, ?_, rfl⟩
  rw [List.tail_range]
  simp; omega
theorem lr_apart {a b : Nat} (ha : a < 256) (hb : b < 256) (h : lf a = rf b) : a = 0 ∧ b = 0 := by
  by_cases h0 : a = 0
  · subst h0
    refine ⟨rfl, ?_⟩
    by_cases hb0 : b = 0
    · exact hb0
    · exfalso
      have := List.all_eq_true.1 rtab_not0 _ (mem_tail rtab_eq hb hb0)
      rw [← h, lf_zero] at this; cases this
  · exfalso
    have h1 := List.all_eq_true.1 tabs_apart _ (mem_tail ltab_eq ha h0)
    have h2 := List.all_eq_true.1 h1 (rf b) (by rw [← rtab_eq]; exact List.mem_map.2 ⟨b, by simpa using hb, rfl⟩)
    rw [h] at h2; simp at h2
theorem plus_xor (k b y : Nat) (hb : b < 2 ^ k) : b + 2 ^ k * y = b ^^^ (2 ^ k * y) := by
  apply Nat.eq_of_testBit_eq; intro i
  rw [Nat.add_comm, Nat.testBit_xor, Nat.testBit_two_pow_mul_add y hb, Nat.testBit_two_pow_mul]
  by_cases h : i < k
  · rw [if_pos h, show decide (i ≥ k) = false by simp; omega]; simp
  · have : b.testBit i = false := Nat.testBit_lt_two_pow (Nat.lt_of_lt_of_le hb (Nat.pow_le_pow_right (by omega) (by omega)))
    rw [if_neg h, this, show decide (i ≥ k) = true by simp; omega]; simp
theorem mul_xor (k a b : Nat) : 2 ^ k * (a ^^^ b) = (2 ^ k * a) ^^^ (2 ^ k * b) := by
  apply Nat.eq_of_testBit_eq; intro i
  rw [Nat.testBit_xor, Nat.testBit_two_pow_mul, Nat.testBit_two_pow_mul, Nat.testBit_two_pow_mul, Nat.testBit_xor]
  cases decide (i ≥ k) <;> simp
theorem step_xor (k a b A B : Nat) (ha : a < 2 ^ k) (hb : b < 2 ^ k) : (a + 2 ^ k * A) ^^^ (b + 2 ^ k * B) = (a ^^^ b) + 2 ^ k * (A ^^^ B) := by
  rw [plus_xor k a A ha, plus_xor k b B hb, Sum.xor4, ← mul_xor, ← plus_xor k _ _ (Nat.xor_lt_two_pow ha hb)]
/-- a list's number -/
def numT : List Int → Nat
  | [] => 0
  | a :: l => a.toNat + 2 ^ 16 * numT l
theorem num_encN2 (a : Int) (h0 : 0 ≤ a) (h1 : a < 65536) (l : List UInt8) : Sum.num (encN a 2 ++ l) = a.toNat + 2 ^ 16 * Sum.num l := by
  obtain ⟨n, rfl⟩ : ∃ n : Nat, a = n := ⟨a.toNat, by omega⟩
  have e : encN (n : Int) 2 = [UInt8.ofNat (n % 256), UInt8.ofNat (n / 256 % 256)] := by
    show [UInt8.ofNat (byteAt (n : Int) 0).toNat, UInt8.ofNat (byteAt (n : Int) 1).toNat] = _
    rw [byteAt_nat, byteAt_nat, Int.toNat_natCast, Int.toNat_natCast]
    simp
  rw [e]
  simp only [List.cons_append, List.nil_append, Sum.num, UInt8.toNat_ofNat']
  omega
theorem num_twos : ∀ (l : List Int), (∀ x ∈ l, 0 ≤ x ∧ x < 65536) → Sum.num (encL (twos l.length) l) = numT l
  | [], _ => rfl
  | a :: l, h => by
    show Sum.num (encN a 2 ++ encL (twos l.length) l) = _
    rw [num_encN2 a (h a (by simp)).1 (h a (by simp)).2, num_twos l fun x hx => h x (by simp [hx])]; rfl
theorem xor_num : ∀ (l n : List Int), l.length = n.length → (∀ x ∈ l, 0 ≤ x ∧ x < 65536) → (∀ x ∈ n, 0 ≤ x ∧ x < 65536) → numT l ^^^ numT n = numT ((l.zip n).map fun p => ((p.1.toNat ^^^ p.2.toNat : Nat) : Int))
  | [], [], _, _, _ => rfl
  | a :: l, b :: n, h, hl, hn => by
    show (a.toNat + 2 ^ 16 * numT l) ^^^ (b.toNat + 2 ^ 16 * numT n) = _
    rw [step_xor 16 _ _ _ _ (by have := hl a (by simp); omega) (by have := hn b (by simp); omega), xor_num l n (by simpa using h) (fun x hx => hl x (by simp [hx])) fun x hx => hn x (by simp [hx])]
    simp [numT]
/-- the check tells tables of one length -/
theorem four_zero {x : List Nat} (hl : x.length = 4) (hx : ∀ y ∈ x, y < 16) (h : Sum.stps 64 (numT (x.map fun y => ((y : Nat) : Int))) = 0) : ∀ y ∈ x, y = 0 := by
  obtain ⟨a, b, c, d, rfl⟩ : ∃ a b c d, x = [a, b, c, d] := by
    clear h hx
    rcases x with _ | ⟨a, _ | ⟨b, _ | ⟨c, _ | ⟨d, _ | ⟨e, t⟩⟩⟩⟩⟩
    all_goals
      first
      | exact ⟨a, b, c, d, rfl⟩
      | (simp at hl)
  have ha := hx a (by simp)
  have hb := hx b (by simp)
  have hc := hx c (by simp)
  have hd := hx d (by simp)
  have e : numT ([a, b, c, d].map fun y => ((y : Nat) : Int)) = (a + 65536 * b) + 2 ^ 32 * (c + 65536 * d) := by
    simp only [List.map_cons, List.map_nil, numT, Int.toNat_natCast]; omega
  rw [e, plus_xor 32 _ _ (by omega), Sum.stps_xor] at h
  have h2 := Sum.xor_ne h
  have e1 : lf (a + 16 * b) = Sum.stps 64 (a + 65536 * b) := by unfold lf; rw [show (a + 16 * b) % 16 = a by omega, show (a + 16 * b) / 16 = b by omega]
  have e2 : rf (c + 16 * d) = Sum.stps 64 (2 ^ 32 * (c + 65536 * d)) := by unfold rf; rw [show (c + 16 * d) % 16 = c by omega, show (c + 16 * d) / 16 = d by omega]
  obtain ⟨r1, r2⟩ := lr_apart (a := a + 16 * b) (b := c + 16 * d) (by omega) (by omega) (by rw [e1, e2]; exact h2)
  intro y hy
  simp at hy
  rcases hy with rfl | rfl | rfl | rfl <;> omega
theorem numT_zeros : ∀ (l : List Int) (k : Nat), numT (l ++ List.replicate k 0) = numT l
  | [], 0 => rfl
  | [], k + 1 => by
    show numT (0 :: List.replicate k 0) = 0
    have := numT_zeros [] k
    simp only [List.nil_append] at this
    simp [numT, this]
  | a :: l, k => by show a.toNat + 2 ^ 16 * numT (l ++ List.replicate k 0) = _; rw [numT_zeros l k]; rfl
theorem stps_zero : ∀ n, Sum.stps n 0 = 0
  | 0 => rfl
  | n + 1 => by show Sum.stp (Sum.stps n 0) = 0; rw [stps_zero n]; rfl
theorem zip_eq : ∀ (l n : List Int), l.length = n.length → (∀ x ∈ l, 0 ≤ x) → (∀ x ∈ n, 0 ≤ x) → (∀ y ∈ (l.zip n).map (fun p => p.1.toNat ^^^ p.2.toNat), y = 0) → l = n
  | [], [], _, _, _, _ => rfl
  | a :: l, b :: n, h, hl, hn, hz => by
    have h0 : a.toNat ^^^ b.toNat = 0 := hz _ (by simp)
    have := Sum.xor_ne h0
    have h1 := hl a (by simp); have h2 := hn b (by simp)
    rw [zip_eq l n (by simpa using h) (fun x hx => hl x (by simp [hx])) (fun x hx => hn x (by simp [hx])) (fun y hy => hz y (by simp at hy ⊢; exact .inr hy))]
    congr 1; omega
theorem chk_tab {c : Nat} {l n : List Int} (hlen : l.length = n.length) (h4 : n.length ≤ 4) (hl : ∀ x ∈ l, 0 ≤ x ∧ x < 16) (hn : ∀ x ∈ n, 0 ≤ x ∧ x < 16) (h : Sum.chk c (encL (twos l.length) l) = Sum.chk c (encL (twos n.length) n)) : l = n := by
  have h1 : Sum.rgs (Sum.full - c) (encL (twos l.length) l) = Sum.rgs (Sum.full - c) (encL (twos n.length) n) := by
    rw [← Sum.full_full _ (Sum.rgs_lt (Sum.full - c) (encL (twos l.length) l) (Sum.full_lt _)), ← Sum.full_full _ (Sum.rgs_lt (Sum.full - c) (encL (twos n.length) n) (Sum.full_lt _))]
    exact congrArg (Sum.full - ·) h
  have hll : ∀ l : List Int, (encL (twos l.length) l).length = 2 * l.length := fun l => by
    have := txL_length l
    rw [txL_eq, List.length_append, encN_length] at this; omega
  have h2 := Sum.rgs_diff (Sum.full - c) (Sum.full - c) (encL (twos l.length) l) (encL (twos n.length) n) (by rw [hll, hll, hlen])
  rw [h1, Nat.xor_self, Nat.xor_self, Nat.zero_xor, hll, num_twos l (fun x hx => by have := hl x hx; omega), num_twos n (fun x hx => by have := hn x hx; omega),
    xor_num l n hlen (fun x hx => by have := hl x hx; omega) (fun x hx => by have := hn x hx; omega)] at h2
  obtain ⟨z, hz⟩ : ∃ z, z = (l.zip n).map (fun p => p.1.toNat ^^^ p.2.toNat) := ⟨_, rfl⟩
  have hzl : z.length = n.length := by rw [hz, List.length_map, List.length_zip]; omega
  have hzm : ((l.zip n).map fun p => ((p.1.toNat ^^^ p.2.toNat : Nat) : Int)) = z.map fun y => ((y : Nat) : Int) := by rw [hz, List.map_map]; rfl
  rw [hzm] at h2
  have hz16 : ∀ y ∈ z, y < 16 := fun y hy => by
    rw [hz] at hy
    obtain ⟨p, hp, rfl⟩ := List.mem_map.1 hy
    have h1 := hl p.1 (List.of_mem_zip hp).1
    have h2 := hn p.2 (List.of_mem_zip hp).2
    exact Nat.xor_lt_two_pow (n := 4) (by omega) (by omega)
  have h3 : Sum.stps 64 (numT ((z ++ List.replicate (4 - n.length) 0).map fun y => ((y : Nat) : Int))) = 0 := by
    have e : ((z ++ List.replicate (4 - n.length) 0).map fun y => ((y : Nat) : Int)) = (z.map fun y => ((y : Nat) : Int)) ++ List.replicate (4 - n.length) 0 := by rw [List.map_append, List.map_replicate]; rfl
    rw [e, numT_zeros, show 64 = (64 - 8 * (2 * l.length)) + 8 * (2 * l.length) by omega, Sum.stps_add, ← h2, stps_zero]
  have h4' := four_zero (x := z ++ List.replicate (4 - n.length) 0) (by simp [hzl]; omega) (fun y hy => by
    rcases List.mem_append.1 hy with hy | hy
    · exact hz16 y hy
    · rw [List.eq_of_mem_replicate hy]; omega) h3
  refine zip_eq l n hlen (fun x hx => (hl x hx).1) (fun x hx => (hn x hx).1) fun y hy => h4' y ?_
  rw [hz]
  exact List.mem_append.2 (.inl hy)
end Go.Proofs.YtpdickpipdaphaaGreatDoor.Rem

/- Layer 7's law RemapTorn: torn images. -/
namespace Go.Proofs.YtpdickpipdaphaaGreatDoor.Rem
open Go Go.RowKit Go.Proofs.YtpdickpipdaphaaGreatDoor Dev Tab Env Lend
set_option linter.unusedVariables false

theorem encN8 (x : Nat) (h : x < 256) : encN (x : Int) 8 = UInt8.ofNat x :: List.replicate 7 0 := by
  rw [encN_front]
  have e1 : ((x : Int) / 256) = 0 := by omega
  have e2 : ((x : Int) % 256).toNat = x := by omega
  rw [e1, e2]
  congr 1
theorem part_take (l : List UInt8) (a b : Nat) (h : a + b ≤ 24) : ((l.take 24).drop a).take b = (l.drop a).take b := by
  rw [List.drop_take, List.take_take]; congr 1; omega
theorem F_take (l : List UInt8) (h : l.length = 128) : nums (l.take 24) = nums l := by
  rw [nums_list, nums_list]
  rw [part_take l 4 1 (by omega), part_take l 5 1 (by omega), part_take l 6 2 (by omega), part_take l 8 4 (by omega), part_take l 12 8 (by omega), part_take l 20 4 (by omega)]
theorem zr_zeros : ∀ l : List UInt8, zrB l = true → l = zeros l.length
  | [], _ => rfl
  | a :: l, h => by
    unfold zrB at h
    simp only [List.all_cons, Bool.and_eq_true, beq_iff_eq] at h
    obtain ⟨rfl, h2⟩ := h
    show (0 : UInt8) :: l = List.replicate (l.length + 1) 0
    rw [List.replicate_succ]
    congr 1
    exact zr_zeros l h2
/-- bytes that are a table are its bytes -/
theorem tx_pa {l : List UInt8} {k : Int} (hf : paF l k = true) (hk : k ≤ 32) : txL (paL l) = l := by
  unfold paF at hf
  simp only [Bool.and_eq_true, decide_eq_true_eq] at hf
  obtain ⟨h8, h2, hN, hg⟩ := hf
  have hlen : l.length = 8 + 2 * paN l := by unfold paN; omega
  have hr2 : ∀ (c : Nat) (l : List UInt8), rdL (twos c) l = (List.range c).map fun i => ((getL ((l.drop (2 * i)).take 2) : Nat) : Int) := by
    intro c
    induction c with
    | zero => intro l; rfl
    | succ c ih =>
      intro l
      show rdL (2 :: twos c) l = _
      rw [rdL, ih, List.range_succ_eq_map]
      simp only [List.map_cons, List.map_map]
      congr 1
      apply List.map_congr_left
      intro i _
      simp only [Function.comp, List.drop_drop]
      rw [show (2 : Int).toNat + 2 * i = 2 * (i + 1) by simp; omega]
  have hc : rdL (tabW (paN l)) l = ((paN l : Nat) : Int) :: paL l := by
    show rdL (8 :: twos (paN l)) l = _
    rw [rdL, hr2]
    show ((getL (l.take 8) : Nat) : Int) :: _ = _ :: List.map (paI l) (List.range (paN l))
    rw [hg]
    congr 1
    apply List.map_congr_left
    intro i _
    simp only [List.drop_drop, paI]
    rfl
  have h := encL_rdL (tabW (paN l)) l (tabW_ok _) (by rw [tabW_sum]; omega)
  rw [hc, tabW_sum] at h
  unfold txL
  rw [paL_length, h]
  exact List.take_of_length_le (by omega)
theorem opT_parts {s : Nat} {T : List UInt8} {l : List Int} (h : opT s T = some l) : opE T = 0 ∧ opB T = true ∧ F T 5 = opC T ∧ F T 0 = 2 ∧ F T 3 = s ∧ F T 4 = (l.length : Int) ∧ paF (opP T) 4 = true ∧ l = paL (opP T) ∧ Tab.Good 12 4 l := by
  unfold opT at h
  split at h
  · rename_i hc
    obtain ⟨h0, h1, h2, h3, h4⟩ := hc
    have hl : paL (oP T).data.toList = l := Option.some.inj h
    have hB : opB T = true := by
      unfold opE at h0
      by_cases hb : opB T = true
      · exact hb
      · rw [if_neg hb] at h0; cases h0
    have h5 : F T 5 = opC T := by
      unfold opE at h0
      rw [if_pos hB] at h0
      by_cases hb : F T 5 = opC T
      · exact hb
      · rw [if_neg hb] at h0; cases h0
    rw [oK, if_pos h0] at h1
    rw [oA, if_pos h0] at h2
    rw [oG, if_pos h0] at h4
    have hoP : (oP T).data.toList = opP T := by rw [oP, if_pos h0]; rfl
    rw [hoP] at h3 h4 hl
    obtain ⟨m1, m2⟩ := paE_zero h3
    have hgood := pa_good m1 m2
    unfold paB at m2
    rw [Bool.and_eq_true] at m2
    rw [← hl]
    exact ⟨h0, hB, h5, h1, h2, h4, m2.1, rfl, hgood⟩
  · cases h
section
variable {s : Nat} {n l' : List Int} {T : List UInt8}
theorem good_lt {l : List Int} (h : Tab.Good 12 4 l) : ∀ x ∈ l, 0 ≤ x ∧ x < 16 := fun x hx => by have := h.mem x hx; omega
theorem img_parts (hs : s < 2) (hn : Tab.Good 12 4 n) : (imgL 2 s n.length 104 (txL n)).length = 128 ∧ nums (imgL 2 s n.length 104 (txL n)) = [2, 0, ((txL n).length : Int), (s : Int), (n.length : Int), (ckL 2 (txL n).length s n.length (bodyL 104 (txL n)) : Int)] := by
  have hl : (txL n).length ≤ 104 := by have := hn.bd; rw [txL_length]; omega
  have hb : hdB 2 (s : Int) = true := by
    rcases (show s = 0 ∨ s = 1 by omega) with rfl | rfl <;> decide
  exact ⟨by rw [imgL_length _ _ _ _ _ hl], img_nums (fit_of hb (by omega) (by have := hn.bd; omega) (by omega))⟩
/-- an image whose head is that of a table, and that has as many blocks, is that table's -/
theorem torn_img (hs : s < 2) (hn : Tab.Good 12 4 n) (hT : T.length = 128) (hhd : T.take 24 = (imgL 2 s n.length 104 (txL n)).take 24) (ho : opT s T = some l') (hlen : l'.length = n.length) : l' = n := by
  obtain ⟨h0, hB, h5, h1, h2, h4, hpf, hl, hg⟩ := opT_parts ho
  obtain ⟨n1, n2⟩ := img_parts hs hn
  have hnums : nums T = nums (imgL 2 s n.length 104 (txL n)) := by rw [← F_take T hT, hhd, F_take _ n1]
  rw [n2] at hnums
  have f2 : F T 2 = ((txL n).length : Int) := by unfold F; rw [hnums]; rfl
  have f5 : F T 5 = (ckL 2 (txL n).length s n.length (bodyL 104 (txL n)) : Int) := by unfold F; rw [hnums]; rfl
  have f0 : F T 0 = 2 := h1
  have f4 : F T 4 = (n.length : Int) := by rw [h4, hlen]
  have htl := txL_length n
  have hn4 : n.length ≤ 4 := by have := hn.len; omega
  obtain ⟨b1, b2, b3, b4, b5, b6, b7⟩ := opB_parts hB
  rw [f2, Int.toNat_natCast] at b7
  have hpl : opP T = (T.drop 24).take (txL n).length := by unfold opP; rw [f2, Int.toNat_natCast]
  have hbody : T.drop 24 = bodyL 104 (txL l') := by
    have e1 : txL l' = opP T := by rw [hl]; exact tx_pa hpf (by omega)
    have e2 : (opP T).length = (txL n).length := by rw [hpl, List.length_take, List.length_drop]; omega
    unfold bodyL
    rw [e1, e2]
    have e3 := zr_zeros _ b7
    rw [List.length_drop] at e3
    rw [show 104 - (txL n).length = T.length - (24 + (txL n).length) by omega, ← e3, ← List.drop_drop, hpl, List.take_append_drop]
  have hck : ckL 2 (txL n).length s n.length (bodyL 104 (txL l')) = ckL 2 (txL n).length s n.length (bodyL 104 (txL n)) := by
    have : F T 5 = (ckL (F T 0) (F T 2) (F T 3) (F T 4) (T.drop 24) : Int) := h5
    rw [f5, f0, f2, h2, f4, hbody] at this
    exact (Int.ofNat.inj this).symm
  have hsplit : ∀ l : List Int, l.length = n.length → hdr 2 ((txL n).length : Int) s n.length 0 ++ bodyL 104 (txL l) = (hdr 2 ((txL n).length : Int) s n.length 0 ++ encN (n.length : Int) 8) ++ (encL (twos l.length) l ++ zeros (104 - (txL n).length)) := fun l hl => by
    unfold bodyL
    rw [txL_length, txL_length, hl, txL_eq, hl]
    simp only [List.append_assoc]
  unfold ckL at hck
  rw [hsplit l' hlen, hsplit n rfl] at hck
  have happ : ∀ A E Z : List UInt8, Sum.chk 0 (A ++ (E ++ Z)) = Sum.chk (Sum.chk (Sum.chk 0 A) E) Z := fun A E Z => by rw [Sum.chk_append, Sum.chk_append]
  rw [happ, happ] at hck
  have := Sum.chk_inj _ _ _ (Sum.chk_lt _ _) (Sum.chk_lt _ _) hck
  exact chk_tab hlen hn4 (good_lt hg) (good_lt hn) this
/-- what stood there: noughts, or the image of a table of fewer blocks than b -/
def Base (s : Nat) (F : List UInt8) (b : Nat) : Prop := F = (noughts 128).data.toList ∨ ∃ f, Tab.Good 12 4 f ∧ F = (imgT s f).data.toList ∧ f.length < b
theorem Base.mono {F : List UInt8} {b c : Nat} (h : Base s F b) (hc : b ≤ c) : Base s F c := by
  rcases h with h | ⟨f, h1, h2, h3⟩
  · exact .inl h
  · exact .inr ⟨f, h1, h2, by omega⟩
theorem img_gen (hs : s < 2) (hn : Tab.Good 12 4 n) : ((imgT s n).data.toList.drop 12).take 8 = encN (n.length : Int) 8 ∧ ((imgT s n).data.toList.drop 24).take 8 = encN (n.length : Int) 8 := by
  have hl : (txL n).length ≤ 104 := by have := hn.bd; rw [txL_length]; omega
  show ((imgL 2 s n.length 104 (txL n)).drop 12).take 8 = _ ∧ ((imgL 2 s n.length 104 (txL n)).drop 24).take 8 = _
  constructor
  · unfold imgL
    rw [hdr_eq]
    have e : ∀ c : Int, ∀ B : List UInt8, (markL ++ (encN 2 1 ++ (encN 0 1 ++ (encN ((txL n).length : Int) 2 ++ (encN (s : Int) 4 ++ (encN (n.length : Int) 8 ++ encN c 4)))))) ++ B = (markL ++ (encN 2 1 ++ (encN 0 1 ++ (encN ((txL n).length : Int) 2 ++ encN (s : Int) 4)))) ++ (encN (n.length : Int) 8 ++ (encN c 4 ++ B)) := fun c B => by simp only [List.append_assoc]
    rw [e, List.drop_left' (by simp [encN_length, markL]), List.take_left' (by simp [encN_length])]
  · rw [img_drop]
    unfold bodyL
    rw [txL_eq, List.append_assoc, List.take_left' (by simp [encN_length])]
theorem Base.gen {F : List UInt8} {b : Nat} (hs : s < 2) (h : Base s F b) : ∃ fn : Nat, fn ≤ 4 ∧ F.length = 128 ∧ (F.drop 12).take 8 = encN (fn : Int) 8 ∧ (F.drop 24).take 8 = encN (fn : Int) 8 ∧ (fn < b ∨ fn = 0) := by
  rcases h with rfl | ⟨f, h1, rfl, h3⟩
  · exact ⟨0, by omega, by kernel_rfl, by kernel_rfl, by kernel_rfl, .inr rfl⟩
  · obtain ⟨g1, g2⟩ := img_gen hs h1
    exact ⟨f.length, by have := h1.len; omega, (img_parts hs h1).1, g1, g2, .inl h3⟩
theorem getL_enc8 {x : Nat} (h : x ≤ 4) : getL (encN (x : Int) 8) = x := by
  have := getL_encN (x : Int) 8 (by omega) (by omega)
  omega
/-- what a table's image that was torn is: that table, none, or an elder one -/
theorem torn_op (hs : s < 2) (hn : Tab.Good 12 4 n) {b : Nat} (hb : n.length = b + 1) {Fo : List UInt8} (hF : Base s Fo b) {k : Nat} (hk : k ≤ 128) (hT : T = (imgT s n).data.toList.take k ++ Fo.drop k) (ho : opT s T = some l') : l' = n ∨ l'.length < b ∨ l' = [] := by
  obtain ⟨fn, f4, fl, fg, fp, fb⟩ := hF.gen hs
  obtain ⟨ng, np⟩ := img_gen hs hn
  have nl : (imgT s n).data.toList.length = 128 := (img_parts hs hn).1
  have hn4 : n.length ≤ 4 := by have := hn.len; omega
  obtain ⟨h0, hB, h5, h1, h2, h4, hpf, hl, hg⟩ := opT_parts ho
  have hTl : T.length = 128 := by rw [hT, List.length_append, List.length_take, List.length_drop]; omega
  have hG : getL ((T.drop 12).take 8) = l'.length := by
    have : F T 4 = (getL ((T.drop 12).take 8) : Int) := by unfold F; rw [nums_list]; rfl
    rw [this] at h4; omega
  have hP : getL ((T.drop 24).take 8) = l'.length := by
    unfold paF at hpf
    simp only [Bool.and_eq_true, decide_eq_true_eq] at hpf
    obtain ⟨p1, p2, p3, p4⟩ := hpf
    rw [hl, paL_length, ← p4]
    unfold opP at p1 ⊢
    rw [List.length_take] at p1
    rw [List.take_take]
    congr 2; omega
  by_cases k12 : k ≤ 12
  · have e : T.drop 12 = Fo.drop 12 := by
      rw [hT, List.drop_append, List.drop_of_length_le (by rw [List.length_take]; omega), List.nil_append, List.length_take, List.drop_drop]
      congr 1; omega
    rw [e, fg, getL_enc8 f4] at hG
    rcases fb with h | h
    · exact .inr (.inl (by omega))
    · exact .inr (.inr (List.length_eq_zero_iff.1 (by omega)))
  · have e : (T.drop 12).take 8 = encN (n.length : Int) 8 := by
      have e1 : T.drop 12 = ((imgT s n).data.toList.drop 12).take (k - 12) ++ Fo.drop k := by
        rw [hT, List.drop_append_of_le_length (by rw [List.length_take]; omega), List.drop_take]
      rw [e1, List.take_append, List.length_take, List.length_drop, List.take_take]
      by_cases k20 : 20 ≤ k
      · rw [show 8 - min (k - 12) ((imgT s n).data.toList.length - 12) = 0 by omega, List.take_zero, List.append_nil, show min 8 (k - 12) = 8 by omega, ng]
      · rw [show min (k - 12) ((imgT s n).data.toList.length - 12) = k - 12 by omega, show min 8 (k - 12) = k - 12 by omega]
        have a1 : ((imgT s n).data.toList.drop 12).take (k - 12) = (encN (n.length : Int) 8).take (k - 12) := by
          rw [← ng, List.take_take]; congr 1; omega
        have a2 : (Fo.drop k).take (8 - (k - 12)) = (encN (fn : Int) 8).drop (k - 12) := by
          rw [← fg, List.drop_take, List.drop_drop]; congr 2; omega
        rw [a1, a2, encN8 _ (by omega), encN8 _ (by omega)]
        rw [show k - 12 = (k - 13) + 1 by omega, List.take_succ_cons, List.drop_succ_cons, List.cons_append, List.take_append_drop]
    rw [e, getL_enc8 hn4] at hG
    by_cases k24 : k ≤ 24
    · exfalso
      have e2 : T.drop 24 = Fo.drop 24 := by
        rw [hT, List.drop_append, List.drop_of_length_le (by rw [List.length_take]; omega), List.nil_append, List.length_take, List.drop_drop]
        congr 1; omega
      rw [e2, fp, getL_enc8 f4] at hP
      rcases fb with h | h <;> omega
    · refine .inl (torn_img hs hn hTl ?_ ho hG.symm)
      rw [hT, List.take_append_of_le_length (by rw [List.length_take]; omega), List.take_take]
      show _ = ((imgT s n).data.toList).take 24
      congr 1; omega
end
end Go.Proofs.YtpdickpipdaphaaGreatDoor.Rem

/- Layer 7's law RemapTorn: devices whose power may fail, and what becomes of their slots. -/
namespace Go.Proofs.YtpdickpipdaphaaGreatDoor.Rem
open Go Go.RowKit Go.Proofs.YtpdickpipdaphaaGreatDoor Dev Tab
set_option linter.unusedVariables false

/-- a device without faults; M: what its slots have; cs: which writes wait -/
structure Ck (D : Dv) (M : Nat → ByteArray) (cs : List (Nat × ByteArray)) : Prop where
  dead : D.dead = false
  lose : D.lose = 0
  stray : D.stray = 0
  n : D.n = 20
  size : D.size = 128
  cache : D.cache = cs
  med : ∀ i, i < 4 → medG D i = M i
  bad : ∀ i : Nat, i < 4 → badB D i = false
  ok : D.Ok
/-- .. whose power is on; f: its fuse -/
structure Cf (D : Dv) (M : Nat → ByteArray) (f : Nat) : Prop where
  ck : Ck D M []
  off : D.off = false
  fuse : D.fuse = f
/-- how much of a write that wasn't flushed lasts -/
def kq (fs : List Int) : Nat := match fs with | [] => 0 | f :: _ => keptN f 128
theorem kq_le (fs : List Int) : kq fs ≤ 128 := by
  unfold kq
  split
  · omega
  · exact keptN_le _ _
theorem mixB_zero (t m : ByteArray) : mixB t m 0 = m := by
  unfold mixB
  rw [show t.extract 0 0 = ByteArray.empty by rw [ByteArray.extract_eq_empty_iff]; omega, ByteArray.extract_zero_size]; simp
section
variable {D : Dv} {M : Nat → ByteArray} {f : Nat} {cs : List (Nat × ByteArray)}
theorem calm_ok (h : D.Ok) : (D.emptied.calm).Ok := ⟨h.n8, h.n4096, h.s128, h.s1024, h.media, fun x hx => (by cases hx), fun x hx => (by cases hx), by show 0 ≤ _; omega, h.lose, h.stray⟩
theorem Ck.calm (h : Ck D M cs) : Cf (D.emptied.calm) M 0 := ⟨⟨h.dead, h.lose, h.stray, h.n, h.size, rfl, h.med, h.bad, calm_ok h.ok⟩, rfl, rfl⟩
theorem Ck.crash0 (h : Ck D M []) (fs : List Int) : Cf (D.crashD fs) M 0 := by
  have e : fated D fs = [] := by unfold fated; rw [h.cache]; rfl
  unfold Dv.crashD
  rw [e]; exact h.calm
theorem medG_put (D : Dv) (i : Nat) (t : ByteArray) (k : Nat) (hi : i < D.n) : medG (D.put i t k) i = mixB t (medG D i) k := by
  rw [D.put_eq i t k hi]
  unfold medG
  simp only [List.getElem?_set_self hi, List.getElem?_eq_getElem (show i < D.secs.length from hi), Option.map_some, Option.getD_some]
  rfl
theorem Ck.put (h : Ck D M cs) {i : Nat} (hi : i < 4) {N : ByteArray} (hN : N.size = 128) {k : Nat} (hk : k ≤ 128) : Ck (D.put i N k) (upd M i (mixB N (M i) k)) cs := by
  obtain ⟨p1, p2, p3, p4, p5⟩ := put_rest D i N k
  have hin : i < D.n := by rw [h.n]; omega
  refine ⟨p1.trans h.dead, p4.trans h.lose, p5.trans h.stray, (D.put_n _ _ _).trans h.n, (D.put_size _ _ _).trans h.size, (D.put_cache _ _ _).trans h.cache, fun j hj => ?_, fun j hj => (put_bads _ _ _ _ _).trans (h.bad j hj), D.put_ok h.ok _ _ _ hin (hN.trans h.size.symm) (by rw [h.size]; exact hk)⟩
  by_cases e : j = i
  · subst e; rw [upd_same, medG_put _ _ _ _ hin, h.med j hj]
  · rw [upd_ne _ _ e, medG_put_ne D j i N k (Ne.symm e), h.med j hj]
theorem Ck.cong (h : Ck D M cs) {M' : Nat → ByteArray} (hM : ∀ i, i < 4 → M' i = M i) : Ck D M' cs := ⟨h.dead, h.lose, h.stray, h.n, h.size, h.cache, fun i hi => (h.med i hi).trans (hM i hi).symm, h.bad, h.ok⟩
theorem Ck.crash1 {i : Nat} {N : ByteArray} (h : Ck D M [(i, N)]) (hi : i < 4) (hN : N.size = 128) (fs : List Int) : Cf (D.crashD fs) (upd M i (mixB N (M i) (kq fs))) 0 := by
  unfold Dv.crashD
  cases fs with
  | nil =>
    have e : fated D [] = [] := by unfold fated; rw [h.cache]; rfl
    rw [e]
    refine (h.cong (M' := upd M i (mixB N (M i) (kq []))) fun j hj => ?_).calm
    by_cases e : j = i
    · subst e; rw [upd_same]; exact mixB_zero _ _
    · rw [upd_ne _ _ e]
  | cons f fs =>
    have e : fated D (f :: fs) = [((i, N), keptN f 128)] := by unfold fated; rw [h.cache, h.size]; simp
    rw [e]
    exact (h.put hi hN (keptN_le f 128)).calm
theorem Ck.blow (h : Ck D M cs) : Ck D.blow M cs := ⟨h.dead, h.lose, h.stray, h.n, h.size, h.cache, h.med, h.bad, ⟨h.ok.n8, h.ok.n4096, h.ok.s128, h.ok.s1024, h.ok.media, h.ok.text, h.ok.sector, by have := h.ok.fuse; show D.fuse - 1 ≤ _; omega, h.ok.lose, h.ok.stray⟩⟩
theorem Cf.refuse (h : Cf D M f) : refuse D = 0 := by unfold Dev.refuse; rw [h.off, h.ck.dead]; rfl
theorem Ck.has (h : Ck D M cs) {i : Nat} (hi : i < 4) : hasB D (i : Nat) = true := hasB_nat D i (by rw [h.n]; omega)
theorem Cf.write1 (h : Cf D M 1) {i : Nat} (hi : i < 4) {N : ByteArray} (hN : N.size = 128) : putE D (i : Nat) N = 6 ∧ putD D (i : Nat) N = D.blow := by
  have hs : stk D.fuse = true := by rw [h.fuse]; rfl
  have hE : D.writeE (i : Nat) N = 6 := by unfold Dv.writeE; rw [h.refuse, h.ck.has hi, hs]; simp [hN, h.ck.size]
  have hD : D.writeD (i : Nat) N = D.blow := by unfold Dv.writeD; rw [h.refuse, h.ck.has hi, hs]; simp [hN, h.ck.size]
  unfold putE putD
  rw [if_neg (by rw [h.ck.dead]; decide), if_pos (by rw [hE]; decide), if_neg (by rw [h.ck.dead]; decide), if_pos (by rw [hE]; decide), hE, hD]
  exact ⟨rfl, rfl⟩
/-- what a write makes of it -/
def wrt (D : Dv) (i : Nat) (N : ByteArray) : Dv := { D with off := false, fuse := D.fuse - 1, nw := bump D.nw, cache := [(i, N)], lose := 0, stray := 0 }
theorem Cf.write (h : Cf D M f) (hf : f ≠ 1) {i : Nat} (hi : i < 4) {N : ByteArray} (hN : N.size = 128) : D.writeE (i : Nat) N = 0 ∧ D.writeD (i : Nat) N = wrt D i N := by
  have hs : stk D.fuse = false := by rw [h.fuse]; unfold stk; exact decide_eq_false hf
  have hb := h.ck.bad i hi
  refine ⟨by unfold Dv.writeE; rw [h.refuse, h.ck.has hi, hs, hb]; simp [hN, h.ck.size], ?_⟩
  unfold Dv.writeD
  rw [h.refuse, h.ck.has hi, hs, hb]
  have hd : dest D.blow.counted (i : Nat) = (i : Nat) := by
    unfold Dev.dest
    have : D.blow.counted.stray = 0 := h.ck.stray
    rw [this]; rfl
  have hg : goes D.blow.counted (i : Nat) = true := by
    unfold Dev.goes
    rw [hd]
    have e1 : D.blow.counted.lose = 0 := h.ck.lose
    have e2 : hasB D.blow.counted (i : Nat) = true := h.ck.has hi
    have e3 : badB D.blow.counted (i : Nat) = false := hb
    rw [e1, e2, e3]; rfl
  rw [hg, hd]
  simp only [hN, h.ck.size]
  simp
  have h1 := h.ck.cache; have h2 := h.ck.lose; have h3 := h.ck.stray; have h4 := h.off
  obtain ⟨size, secs, cache, dead, off, fuse, lose, stray, tgt, nr, nw, nf⟩ := D
  simp only at h1 h2 h3 h4 hs
  subst h1; subst h2; subst h3; subst h4
  unfold Dv.push Dv.struck Dv.counted Dv.blow wrt
  simp [hs]
theorem Cf.wrt (h : Cf D M f) {i : Nat} (hi : i < 4) {N : ByteArray} (hN : N.size = 128) : Ck (wrt D i N) M [(i, N)] ∧ (wrt D i N).off = false ∧ (wrt D i N).fuse = f - 1 := by
  have h0 := h.ck.ok
  refine ⟨⟨h.ck.dead, rfl, rfl, h.ck.n, h.ck.size, rfl, h.ck.med, h.ck.bad, ⟨h0.n8, h0.n4096, h0.s128, h0.s1024, h0.media, fun x hx => ?_, fun x hx => ?_, by have := h0.fuse; show D.fuse - 1 ≤ _; omega, by show 0 ≤ _; omega, by show 0 ≤ _; omega⟩⟩, rfl, by show D.fuse - 1 = _; rw [h.fuse]⟩
  · rw [List.mem_singleton.1 hx]; exact hN.trans h.ck.size.symm
  · rw [List.mem_singleton.1 hx]; show i < D.n; rw [h.ck.n]; omega
theorem Ck.flush1 (h : Ck D M cs) (ho : D.off = false) (hf : D.fuse = 1) : D.flushE = 6 ∧ D.flushD = D.blow := by
  have hr : Dev.refuse D = 0 := by unfold Dev.refuse; rw [ho, h.dead]; rfl
  have hs : stk D.fuse = true := by rw [hf]; rfl
  unfold Dv.flushE Dv.flushD
  rw [hr, hs]; exact ⟨rfl, rfl⟩
theorem Ck.flush {i : Nat} {N : ByteArray} (h : Ck D M [(i, N)]) (hi : i < 4) (hN : N.size = 128) (hM : (M i).size = 128) (ho : D.off = false) (hf : D.fuse ≠ 1) : D.flushE = 0 ∧ Ck D.flushD (upd M i N) [] := by
  have hr : Dev.refuse D = 0 := by unfold Dev.refuse; rw [ho, h.dead]; rfl
  have hs : stk D.fuse = false := by unfold stk; exact decide_eq_false hf
  unfold Dv.flushE Dv.flushD
  rw [hr, hs]
  refine ⟨rfl, ?_⟩
  have hb : Ck D.blow.flushed M [(i, N)] := by
    have hx := h.blow
    exact ⟨hx.dead, hx.lose, hx.stray, hx.n, hx.size, hx.cache, hx.med, hx.bad, ⟨hx.ok.n8, hx.ok.n4096, hx.ok.s128, hx.ok.s1024, hx.ok.media, hx.ok.text, hx.ok.sector, hx.ok.fuse, hx.ok.lose, hx.ok.stray⟩⟩
  have hw : whole D = [((i, N), 128)] := by unfold whole; rw [h.cache, h.size]; rfl
  rw [hw]
  have hp := hb.put hi hN (k := 128) (by omega)
  rw [mixB_all N (M i) 128 hN hM] at hp
  have e : (if (0 : Int) ≠ 0 then D else if false = true then D.blow else (D.blow.flushed.puts [((i, N), 128)]).emptied) = (D.blow.flushed.put i N 128).emptied := rfl
  rw [e]
  exact ⟨hp.dead, hp.lose, hp.stray, hp.n, hp.size, rfl, hp.med, hp.bad, ⟨hp.ok.n8, hp.ok.n4096, hp.ok.s128, hp.ok.s1024, hp.ok.media, fun x hx => (by cases hx), fun x hx => (by cases hx), hp.ok.fuse, hp.ok.lose, hp.ok.stray⟩⟩
theorem Ck.msz (h : Ck D M cs) {i : Nat} (hi : i < 4) : (M i).size = 128 := by
  rw [← h.med i hi]
  have hin : i < D.secs.length := by have := h.n; unfold Dv.n at this; omega
  unfold medG
  rw [List.getElem?_eq_getElem hin]
  exact (h.ok.media _ (List.getElem_mem hin)).trans h.size
/-- a table's image into a slot, and the power fails, or not; then a crash -/
theorem Cf.keep (h : Cf D M f) {i : Nat} (hi : i < 4) {N : ByteArray} (hN : N.size = 128) (fs : List Int) :
    (f = 1 ∧ putE D (i : Nat) N = 6 ∧ Cf ((putD D (i : Nat) N).crashD fs) M 0) ∨ (f = 2 ∧ putE D (i : Nat) N = 6 ∧ Cf ((putD D (i : Nat) N).crashD fs) (upd M i (mixB N (M i) (kq fs))) 0) ∨
    (putE D (i : Nat) N = 0 ∧ Cf ((putD D (i : Nat) N).crashD fs) (upd M i N) 0) := by
  by_cases h1 : f = 1
  · subst h1
    obtain ⟨a, b⟩ := h.write1 hi hN
    exact .inl ⟨rfl, a, by rw [b]; exact h.ck.blow.crash0 fs⟩
  · obtain ⟨w1, w2⟩ := h.write h1 hi hN
    obtain ⟨k1, k2, k3⟩ := h.wrt hi hN
    have hE : putE D (i : Nat) N = (Rem.wrt D i N).flushE := by unfold putE; rw [if_neg (by rw [h.ck.dead]; decide), if_neg (by omega), w2]
    have hD : putD D (i : Nat) N = (Rem.wrt D i N).flushD := by unfold putD; rw [if_neg (by rw [h.ck.dead]; decide), if_neg (by omega), w2]
    rw [hE, hD]
    by_cases h2 : f = 2
    · obtain ⟨a, b⟩ := k1.flush1 k2 (by rw [k3, h2])
      exact .inr (.inl ⟨h2, a, by rw [b]; exact k1.blow.crash1 hi hN fs⟩)
    · obtain ⟨a, b⟩ := k1.flush hi hN (h.ck.msz hi) k2 (by rw [k3]; omega)
      exact .inr (.inr ⟨a, b.crash0 fs⟩)
end
end Go.Proofs.YtpdickpipdaphaaGreatDoor.Rem

/- Layer 7's law RemapTorn: what the tables' slots have, behind a move and a crash. -/
namespace Go.Proofs.YtpdickpipdaphaaGreatDoor.Rem
open Go Go.RowKit Go.Proofs.YtpdickpipdaphaaGreatDoor Dev Tab
set_option linter.unusedVariables false

/-- what side s's slot i on its own device (k = 0), or on the other one, has -/
def mS (M : Nat → Nat → ByteArray) (s k i : Nat) : List UInt8 := (M (if k = 0 then s else 1 - s) (2 * k + i)).data.toList
/-- side s's table l is to be found, and no other one of as great a generation; what was there ahead of a write that was torn behind kk bytes -/
structure TOk (M : Nat → Nat → ByteArray) (s : Nat) (l : List Int) (kk : Nat) : Prop where
  good : Tab.Good 12 4 l
  one : ∃ k, k < 2 ∧ opT s (mS M s k (l.length % 2)) = some l
  low : ∀ k, k < 2 → ∀ i, i < 2 → ∀ l', opT s (mS M s k i) = some l' → l' = l ∨ l'.length < l.length
  tail : ∀ k, k < 2 → ∀ i, i < 2 → ∃ F, Base s F (if i = l.length % 2 then l.length + 1 else l.length) ∧ (mS M s k i).drop kk = F.drop kk
/-- what a slot may have, behind a write of N that was torn, or not -/
def SlR (old v N : List UInt8) (kk : Nat) : Prop := v = old ∨ v = N.take kk ++ old.drop kk ∨ v = N
section
variable {M M' : Nat → Nat → ByteArray} {s kk : Nat} {l n : List Int} {b : Int}
theorem TOk.cong (h : TOk M s l kk) (hM : ∀ k, k < 2 → ∀ i, i < 2 → mS M' s k i = mS M s k i) : TOk M' s l kk := by
  obtain ⟨g, ⟨k, hk, ho⟩, hl, ht⟩ := h
  exact ⟨g, ⟨k, hk, by rw [hM k hk _ (by omega)]; exact ho⟩, fun k hk i hi l' h' => hl k hk i hi l' (by rw [← hM k hk i hi]; exact h'), fun k hk i hi => by rw [hM k hk i hi]; exact ht k hk i hi⟩
theorem img_op (hs : s < 2) (hn : Tab.Good 12 4 n) : opT s (imgT s n).data.toList = some n := opT_img hs hn
/-- of a slot that was written, or not: what it is -/
theorem SlR.op (h : TOk M s l kk) (hs : s < 2) (hn : Tab.Good 12 4 n) (hl : n.length = l.length + 1) (hkk : kk ≤ 128) {k : Nat} (hk : k < 2) {v : List UInt8} (hv : SlR (mS M s k (n.length % 2)) v (imgT s n).data.toList kk) {l' : List Int} (ho : opT s v = some l') : l' = n ∨ l' = l ∨ l'.length < l.length := by
  rcases hv with rfl | rfl | rfl
  · exact .inr (h.low k hk _ (by omega) l' ho)
  · obtain ⟨F, hF, hd⟩ := h.tail k hk (n.length % 2) (by omega)
    rw [if_neg (by omega)] at hF
    rcases torn_op hs hn hl hF hkk (by rw [hd]) ho with h1 | h1 | h1
    · exact .inl h1
    · exact .inr (.inr h1)
    · subst h1
      by_cases h0 : l.length = 0
      · exact .inr (.inl (List.length_eq_zero_iff.1 h0).symm)
      · exact .inr (.inr (by show 0 < _; omega))
  · rw [img_op hs hn] at ho
    exact .inl (Option.some.inj ho).symm
theorem SlR.tail (h : TOk M s l kk) (hs : s < 2) (hn : Tab.Good 12 4 n) (hl : n.length = l.length + 1) (hkk : kk ≤ 128) {k : Nat} (hk : k < 2) {v : List UInt8} (hv : SlR (mS M s k (n.length % 2)) v (imgT s n).data.toList kk) (hN : v ≠ (imgT s n).data.toList) : ∃ F, Base s F l.length ∧ v.drop kk = F.drop kk := by
  obtain ⟨F, hF, hd⟩ := h.tail k hk (n.length % 2) (by omega)
  rw [if_neg (by omega)] at hF
  rcases hv with rfl | rfl | rfl
  · exact ⟨F, hF, hd⟩
  · refine ⟨F, hF, ?_⟩
    have hlen : (imgT s n).data.toList.length = 128 := (img_parts hs hn).1
    rw [List.drop_append, List.drop_of_length_le (by rw [List.length_take]; omega), List.nil_append, List.length_take, hlen, show kk - min kk 128 = 0 by omega, List.drop_zero]
    exact hd
  · exact absurd rfl hN
/-- the table stays: nothing that is to be found is greater -/
theorem TOk.stay (h : TOk M s l kk) (hs : s < 2) (hn : Tab.Good 12 4 n) (hl : n.length = l.length + 1) (hkk : kk ≤ 128) (hM : ∀ k, k < 2 → mS M' s k (l.length % 2) = mS M s k (l.length % 2)) (hv : ∀ k, k < 2 → SlR (mS M s k (n.length % 2)) (mS M' s k (n.length % 2)) (imgT s n).data.toList kk ∧ opT s (mS M' s k (n.length % 2)) ≠ some n) : TOk M' s l kk := by
  have hi2 : ∀ i, i < 2 → i = l.length % 2 ∨ (i = n.length % 2 ∧ i ≠ l.length % 2) := fun i hi => by omega
  refine ⟨h.good, ?_, fun k hk i hi l' h' => ?_, fun k hk i hi => ?_⟩
  · obtain ⟨k, hk, ho⟩ := h.one
    exact ⟨k, hk, by rw [hM k hk]; exact ho⟩
  · rcases hi2 i hi with rfl | ⟨rfl, -⟩
    · exact h.low k hk _ hi l' (by rw [← hM k hk]; exact h')
    · rcases SlR.op h hs hn hl hkk hk (hv k hk).1 h' with h1 | h1
      · exact absurd (by rw [h', h1]) (hv k hk).2
      · exact h1
  · rcases hi2 i hi with rfl | ⟨rfl, h2⟩
    · rw [hM k hk]; exact h.tail k hk _ hi
    · rw [if_neg h2]
      exact SlR.tail h hs hn hl hkk hk (hv k hk).1 fun e => (hv k hk).2 (by rw [e]; exact img_op hs hn)
/-- the new table is to be found -/
theorem TOk.gone (h : TOk M s l kk) (hs : s < 2) (hn : Tab.Good 12 4 n) (hl : n.length = l.length + 1) (hkk : kk ≤ 128) (hM : ∀ k, k < 2 → mS M' s k (l.length % 2) = mS M s k (l.length % 2)) (hv : ∀ k, k < 2 → SlR (mS M s k (n.length % 2)) (mS M' s k (n.length % 2)) (imgT s n).data.toList kk) (h0 : opT s (mS M' s 0 (n.length % 2)) = some n) : TOk M' s n kk := by
  have hi2 : ∀ i, i < 2 → i = l.length % 2 ∨ (i = n.length % 2 ∧ i ≠ l.length % 2) := fun i hi => by omega
  refine ⟨hn, ⟨0, by omega, h0⟩, fun k hk i hi l' h' => ?_, fun k hk i hi => ?_⟩
  · rcases hi2 i hi with rfl | ⟨rfl, -⟩
    · rcases h.low k hk _ hi l' (by rw [← hM k hk]; exact h') with rfl | h2
      · exact .inr (by omega)
      · exact .inr (by omega)
    · rcases SlR.op h hs hn hl hkk hk (hv k hk) h' with h1 | h1 | h1
      · exact .inl h1
      · subst h1; exact .inr (by omega)
      · exact .inr (by omega)
  · rcases hi2 i hi with rfl | ⟨rfl, h2⟩
    · rw [if_neg (by omega), hM k hk]
      obtain ⟨F, hF, hd⟩ := h.tail k hk _ hi
      rw [if_pos rfl] at hF
      exact ⟨F, by rw [hl]; exact hF, hd⟩
    · rw [if_pos rfl]
      by_cases e : mS M' s k (n.length % 2) = (imgT s n).data.toList
      · exact ⟨_, .inr ⟨n, hn, e, by omega⟩, rfl⟩
      · obtain ⟨F, hF, hd⟩ := SlR.tail h hs hn hl hkk hk (hv k hk) e
        exact ⟨F, hF.mono (by omega), hd⟩
theorem mixB_list (t m : ByteArray) (k : Nat) (ht : t.size = 128) (hm : m.size = 128) (hk : k ≤ 128) : (mixB t m k).data.toList = t.data.toList.take k ++ m.data.toList.drop k := by
  unfold mixB
  rw [ByteArray.data_append, Array.toList_append, ByteArray.data_extract, ByteArray.data_extract, Array.toList_extract, Array.toList_extract]
  congr 1
  have : m.data.toList.length = 128 := hm
  simp [hm, List.take_of_length_le (show (m.data.toList.drop k).length ≤ 128 - k by rw [List.length_drop]; omega)]
end
/-- a move of side s's table to n, then a crash of both devices: what is to be found -/
theorem kp_torn {D : Nat → Dv} {M : Nat → Nat → ByteArray} {f : Nat → Nat} (hD : ∀ t, t < 2 → Cf (D t) (M t) (f t)) {s : Nat} (hs : s < 2) {l n : List Int} (hn : Tab.Good 12 4 n) (hl : n.length = l.length + 1) {fs : List Int} {lo : List Int} (hT : TOk M s l (kq fs)) (hO : TOk M (1 - s) lo (kq fs)) :
    (kpE D s n = 0 ∨ kpE D s n = 6) ∧ ∃ M' l', (∀ t, t < 2 → Cf ((kpD D s n t).crashD fs) (M' t) 0) ∧ (l' = l ∨ l' = n) ∧ (kpE D s n = 0 → l' = n) ∧ TOk M' s l' (kq fs) ∧ TOk M' (1 - s) lo (kq fs) := by
  have hk := kq_le fs
  have hN := imgT_size s n hn
  have hne : 1 - s ≠ s := by omega
  have hi1 : n.length % 2 < 4 := by omega
  have hi2 : 2 + n.length % 2 < 4 := by omega
  have hMs : ∀ t, t < 2 → ∀ i, i < 4 → (M t i).size = 128 := fun t ht i hi => (hD t ht).ck.msz hi
  have hmS0 : ∀ (M : Nat → Nat → ByteArray) (i : Nat), mS M s 0 i = (M s i).data.toList := fun M i => by unfold mS; rw [if_pos rfl, Nat.mul_zero, Nat.zero_add]
  have hmS1 : ∀ (M : Nat → Nat → ByteArray) (i : Nat), mS M s 1 i = (M (1 - s) (2 + i)).data.toList := fun M i => by unfold mS; rw [if_neg (by omega)]
  have hmO0 : ∀ (M : Nat → Nat → ByteArray) (i : Nat), mS M (1 - s) 0 i = (M (1 - s) i).data.toList := fun M i => by unfold mS; rw [if_pos rfl, Nat.mul_zero, Nat.zero_add]
  have hmO1 : ∀ (M : Nat → Nat → ByteArray) (i : Nat), mS M (1 - s) 1 i = (M s (2 + i)).data.toList := fun M i => by unfold mS; rw [if_neg (by omega), show 1 - (1 - s) = s by omega]
  -- what both slots have, from what the devices have
  have hfin : ∀ (x y : ByteArray), SlR (M s (n.length % 2)).data.toList x.data.toList (imgT s n).data.toList (kq fs) → SlR (M (1 - s) (2 + n.length % 2)).data.toList y.data.toList (imgT s n).data.toList (kq fs) →
      (x = imgT s n ∨ y.data.toList = (M (1 - s) (2 + n.length % 2)).data.toList) → ∃ l', (l' = l ∨ l' = n) ∧ (x = imgT s n → l' = n) ∧ TOk (upd (upd M s (upd (M s) (n.length % 2) x)) (1 - s) (upd (M (1 - s)) (2 + n.length % 2) y)) s l' (kq fs) ∧ TOk (upd (upd M s (upd (M s) (n.length % 2) x)) (1 - s) (upd (M (1 - s)) (2 + n.length % 2) y)) (1 - s) lo (kq fs) := by
    intro x y hx hy hxy
    obtain ⟨M', hM'⟩ : ∃ M', M' = upd (upd M s (upd (M s) (n.length % 2) x)) (1 - s) (upd (M (1 - s)) (2 + n.length % 2) y) := ⟨_, rfl⟩
    rw [← hM']
    have es : M' s = upd (M s) (n.length % 2) x := by rw [hM', upd_ne _ _ (Ne.symm hne), upd_same]
    have eo : M' (1 - s) = upd (M (1 - s)) (2 + n.length % 2) y := by rw [hM', upd_same]
    have hother : TOk M' (1 - s) lo (kq fs) := hO.cong fun k hk i hi => by
      rcases (show k = 0 ∨ k = 1 by omega) with rfl | rfl
      · rw [hmO0, hmO0, eo, upd_ne _ _ (by omega)]
      · rw [hmO1, hmO1, es, upd_ne _ _ (by omega)]
    have hold : ∀ k, k < 2 → mS M' s k (l.length % 2) = mS M s k (l.length % 2) := fun k hk => by
      rcases (show k = 0 ∨ k = 1 by omega) with rfl | rfl
      · rw [hmS0, hmS0, es, upd_ne _ _ (by omega)]
      · rw [hmS1, hmS1, eo, upd_ne _ _ (by omega)]
    have hv : ∀ k, k < 2 → SlR (mS M s k (n.length % 2)) (mS M' s k (n.length % 2)) (imgT s n).data.toList (kq fs) := fun k hk => by
      rcases (show k = 0 ∨ k = 1 by omega) with rfl | rfl
      · rw [hmS0, hmS0, es, upd_same]; exact hx
      · rw [hmS1, hmS1, eo, upd_same]; exact hy
    by_cases ho : opT s (mS M' s 0 (n.length % 2)) = some n
    · exact ⟨n, .inr rfl, fun _ => rfl, hT.gone hs hn hl hk hold hv ho, hother⟩
    · have hxn : x ≠ imgT s n := fun e => ho (by rw [hmS0, es, upd_same, e]; exact img_op hs hn)
      refine ⟨l, .inl rfl, fun e => absurd e hxn, hT.stay hs hn hl hk hold (fun k hk => ⟨hv k hk, ?_⟩), hother⟩
      rcases (show k = 0 ∨ k = 1 by omega) with rfl | rfl
      · exact ho
      · rw [hmS1, eo, upd_same]
        rcases hxy with h | h
        · exact absurd h hxn
        · rw [h, ← hmS1]
          intro h2
          rcases hT.low 1 (by omega) _ (by omega) n h2 with h3 | h3
          · have := congrArg List.length h3; omega
          · omega
  have hold1 : ∀ (t i : Nat), upd (M t) i (M t i) = M t := fun t i => by
    funext j
    by_cases e : j = i
    · subst e; rw [upd_same]
    · rw [upd_ne _ _ e]
  rcases (hD s hs).keep hi1 hN fs with ⟨-, e0, c0⟩ | ⟨-, e0, c0⟩ | ⟨e0, c0⟩
  · have hE : kpE D s n = 6 := by unfold kpE; rw [if_pos (show kpE0 D s n = 6 from e0)]
    have hKD : kpD D s n = upd D s (kpD0 D s n) := by unfold kpD; rw [if_pos (show kpE0 D s n = 6 from e0)]
    obtain ⟨l', h1, h2, h3, h4⟩ := hfin (M s (n.length % 2)) (M (1 - s) (2 + n.length % 2)) (.inl rfl) (.inl rfl) (.inr rfl)
    refine ⟨.inr hE, _, l', fun t ht => ?_, h1, (fun h => by rw [hE] at h; cases h), h3, h4⟩
    rw [hKD]
    rcases kpP_cases hs ht with rfl | ⟨rfl, h⟩
    · rw [upd_same, upd_ne _ _ (Ne.symm hne), upd_same, hold1]; exact c0
    · rw [upd_ne _ _ h, upd_same, hold1]; exact (hD _ ht).ck.crash0 fs
  · have hE : kpE D s n = 6 := by unfold kpE; rw [if_pos (show kpE0 D s n = 6 from e0)]
    have hKD : kpD D s n = upd D s (kpD0 D s n) := by unfold kpD; rw [if_pos (show kpE0 D s n = 6 from e0)]
    obtain ⟨l', h1, h2, h3, h4⟩ := hfin (mixB (imgT s n) (M s (n.length % 2)) (kq fs)) (M (1 - s) (2 + n.length % 2)) (.inr (.inl (mixB_list _ _ _ hN (hMs s hs _ hi1) hk))) (.inl rfl) (.inr rfl)
    refine ⟨.inr hE, _, l', fun t ht => ?_, h1, (fun h => by rw [hE] at h; cases h), h3, h4⟩
    rw [hKD]
    rcases kpP_cases hs ht with rfl | ⟨rfl, h⟩
    · rw [upd_same, upd_ne _ _ (Ne.symm hne), upd_same]; exact c0
    · rw [upd_ne _ _ h, upd_same, hold1]; exact (hD _ ht).ck.crash0 fs
  · have e0' : kpE0 D s n = 0 := e0
    have hKD : kpD D s n = upd (upd D s (kpD0 D s n)) (1 - s) (kpD1 D s n) := by unfold kpD; rw [if_neg (by rw [e0']; decide)]
    have hE : kpE D s n = if kpE1 D s n = 6 then 6 else 0 := by
      unfold kpE; rw [if_neg (by rw [e0']; decide)]
      split
      · rfl
      · rw [if_pos (.inl e0')]
    rcases (hD (1 - s) (by omega)).keep hi2 hN fs with ⟨-, e1, c1⟩ | ⟨-, e1, c1⟩ | ⟨e1, c1⟩
    · obtain ⟨l', h1, h2, h3, h4⟩ := hfin (imgT s n) (M (1 - s) (2 + n.length % 2)) (.inr (.inr rfl)) (.inl rfl) (.inl rfl)
      refine ⟨.inr (by rw [hE, if_pos (show kpE1 D s n = 6 from e1)]), _, l', fun t ht => ?_, h1, fun _ => h2 rfl, h3, h4⟩
      rw [hKD]
      rcases kpP_cases hs ht with rfl | ⟨rfl, h⟩
      · rw [upd_ne _ _ (Ne.symm hne), upd_same, upd_ne _ _ (Ne.symm hne), upd_same]; exact c0
      · rw [upd_same, upd_same, hold1]; exact c1
    · obtain ⟨l', h1, h2, h3, h4⟩ := hfin (imgT s n) (mixB (imgT s n) (M (1 - s) (2 + n.length % 2)) (kq fs)) (.inr (.inr rfl)) (.inr (.inl (mixB_list _ _ _ hN (hMs (1 - s) (by omega) _ hi2) hk))) (.inl rfl)
      refine ⟨.inr (by rw [hE, if_pos (show kpE1 D s n = 6 from e1)]), _, l', fun t ht => ?_, h1, fun _ => h2 rfl, h3, h4⟩
      rw [hKD]
      rcases kpP_cases hs ht with rfl | ⟨rfl, h⟩
      · rw [upd_ne _ _ (Ne.symm hne), upd_same, upd_ne _ _ (Ne.symm hne), upd_same]; exact c0
      · rw [upd_same, upd_same]; exact c1
    · obtain ⟨l', h1, h2, h3, h4⟩ := hfin (imgT s n) (imgT s n) (.inr (.inr rfl)) (.inr (.inr rfl)) (.inl rfl)
      have e1' : kpE1 D s n = 0 := e1
      refine ⟨.inl (by rw [hE, if_neg (by rw [e1']; decide)]), _, l', fun t ht => ?_, h1, fun _ => h2 rfl, h3, h4⟩
      rw [hKD]
      rcases kpP_cases hs ht with rfl | ⟨rfl, h⟩
      · rw [upd_ne _ _ (Ne.symm hne), upd_same, upd_ne _ _ (Ne.symm hne), upd_same]; exact c0
      · rw [upd_same, upd_same]; exact c1
end Go.Proofs.YtpdickpipdaphaaGreatDoor.Rem

/- Layer 7's law RemapTorn: contracts of what it calls. -/
namespace Go.Proofs.YtpdickpipdaphaaGreatDoor.Rem
open Go Go.RowKit Go.Proofs.YtpdickpipdaphaaGreatDoor Dev Tab
set_option linter.unusedVariables false

section
variable {D : Dv} {M : Nat → ByteArray}
/-- a table's image into a slot, no power failing -/
theorem Cf.keep0 (h : Cf D M 0) {i : Nat} (hi : i < 4) {N : ByteArray} (hN : N.size = 128) : putE D (i : Nat) N = 0 ∧ Cf (putD D (i : Nat) N) (upd M i N) 0 := by
  obtain ⟨w1, w2⟩ := h.write (by omega) hi hN
  obtain ⟨k1, k2, k3⟩ := h.wrt hi hN
  obtain ⟨a, b⟩ := k1.flush hi hN (h.ck.msz hi) k2 (by rw [k3]; omega)
  have hE : putE D (i : Nat) N = (Rem.wrt D i N).flushE := by unfold putE; rw [if_neg (by rw [h.ck.dead]; decide), if_neg (by omega), w2]
  have hD : putD D (i : Nat) N = (Rem.wrt D i N).flushD := by unfold putD; rw [if_neg (by rw [h.ck.dead]; decide), if_neg (by omega), w2]
  rw [hE, hD]
  refine ⟨a, b, ?_, ?_⟩
  all_goals
    have hr : Dev.refuse (Rem.wrt D i N) = 0 := by unfold Dev.refuse; rw [k2, k1.dead]; rfl
    have hs : stk (Rem.wrt D i N).fuse = false := by rw [k3]; rfl
    unfold Dv.flushD
    rw [hr, hs]
    obtain ⟨p1, p2, p3, p4, p5⟩ := puts_rest (whole (Rem.wrt D i N)) (Rem.wrt D i N).blow.flushed
  · show ((Rem.wrt D i N).blow.flushed.puts (whole (Rem.wrt D i N))).off = false
    rw [p2]; show stk (Rem.wrt D i N).fuse = false; exact hs
  · show ((Rem.wrt D i N).blow.flushed.puts (whole (Rem.wrt D i N))).fuse = 0
    rw [p3]; show (Rem.wrt D i N).fuse - 1 = 0; rw [k3]
end
theorem kp_calm {D : Nat → Dv} {M : Nat → Nat → ByteArray} (hD : ∀ t, t < 2 → Cf (D t) (M t) 0) {s : Nat} (hs : s < 2) {l : List Int} (hg : Tab.Good 12 4 l) : kpE D s l = 0 ∧ ∀ t, t < 2 → Cf (kpD D s l t) (if t = s then upd (M t) (l.length % 2) (imgT s l) else upd (M t) (2 + l.length % 2) (imgT s l)) 0 := by
  have hN := imgT_size s l hg
  have hne : 1 - s ≠ s := by omega
  obtain ⟨e0, c0⟩ := (hD s hs).keep0 (i := l.length % 2) (by omega) hN
  obtain ⟨e1, c1⟩ := (hD (1 - s) (by omega)).keep0 (i := 2 + l.length % 2) (by omega) hN
  have e0' : kpE0 D s l = 0 := e0
  have e1' : kpE1 D s l = 0 := e1
  refine ⟨by unfold kpE; rw [if_neg (by rw [e0']; decide), if_neg (by rw [e1']; decide), if_pos (.inl e0')], fun t ht => ?_⟩
  unfold kpD
  rw [if_neg (by rw [e0']; decide)]
  rcases kpP_cases hs ht with rfl | ⟨rfl, h2⟩
  · rw [if_pos rfl, upd_ne _ _ (Ne.symm hne), upd_same]; exact c0
  · rw [if_neg h2, upd_same]; exact c1
/-- what the slots of a new pair have -/
def M00 : Nat → Nat → ByteArray := fun t i => if i = 0 then imgT t [] else if i = 2 then imgT (1 - t) [] else noughts 128
theorem fresh_cf : Cf (Dv.fresh 20 128) (fun _ => noughts 128) 0 := by
  refine ⟨⟨rfl, rfl, rfl, fresh_cd.n, rfl, rfl, fun i hi => ?_, fun i hi => fresh_cd.bad i (by omega), Dv.fresh_ok 20 128 (by omega) (by omega) (by omega) (by omega)⟩, rfl, rfl⟩
  show (((List.replicate 20 (noughts 128, false))[i]?).map (·.1)).getD ⟨#[]⟩ = _
  rw [List.getElem?_replicate, if_pos (by omega)]; rfl
theorem Cf.cong {D : Dv} {M M' : Nat → ByteArray} {f : Nat} (h : Cf D M f) (hM : ∀ i, i < 4 → M' i = M i) : Cf D M' f := ⟨h.ck.cong hM, h.off, h.fuse⟩
theorem kb_calm {D : Nat → Dv} (hD : ∀ t, t < 2 → Cf (D t) (fun _ => noughts 128) 0) : kbE D (fun _ => []) = 0 ∧ ∀ t, t < 2 → Cf (kbD D (fun _ => []) t) (M00 t) 0 := by
  obtain ⟨a1, a2⟩ := kp_calm (M := fun _ _ => noughts 128) hD (s := 0) (by omega) good0
  obtain ⟨b1, b2⟩ := kp_calm a2 (s := 1) (by omega) good0
  have x0 : kbX D (fun _ => []) 0 = 0 := a1
  have x1 : kbX D (fun _ => []) 1 = 0 := b1
  unfold kbE kbD
  rw [if_neg (by omega), if_neg (by omega)]
  refine ⟨x1, fun t ht => ?_⟩
  show Cf (kpD (kpD D 0 []) 1 [] t) _ 0
  refine (b2 t ht).cong fun i hi => ?_
  rcases (show t = 0 ∨ t = 1 by omega) with rfl | rfl
  · rw [if_neg (by omega), if_pos rfl]
    show M00 0 i = upd (upd (fun _ => noughts 128) 0 (imgT 0 [])) 2 (imgT 1 []) i
    rcases (show i = 0 ∨ i = 1 ∨ i = 2 ∨ i = 3 by omega) with rfl | rfl | rfl | rfl <;> simp [M00, upd]
  · rw [if_pos rfl, if_neg (by omega)]
    show M00 1 i = upd (upd (fun _ => noughts 128) 2 (imgT 0 [])) 0 (imgT 1 []) i
    rcases (show i = 0 ∨ i = 1 ∨ i = 2 ∨ i = 3 by omega) with rfl | rfl | rfl | rfl <;> simp [M00, upd]
theorem fresh_kb : kbE (fun _ => Dv.fresh 20 128) (fun _ => []) = 0 ∧ ∀ t, t < 2 → Cf (kbD (fun _ => Dv.fresh 20 128) (fun _ => []) t) (M00 t) 0 := kb_calm fun _ _ => fresh_cf
theorem M00_ok {s : Nat} (hs : s < 2) (kk : Nat) : TOk M00 s [] kk := by
  have h0 : ∀ k, k < 2 → mS M00 s k 0 = (imgT s []).data.toList := fun k hk => by
    rcases (show k = 0 ∨ k = 1 by omega) with rfl | rfl
    · rfl
    · show (M00 (1 - s) 2).data.toList = _
      unfold M00
      rw [if_neg (by omega), if_pos rfl, show 1 - (1 - s) = s by omega]
  have h1 : ∀ k, k < 2 → mS M00 s k 1 = (noughts 128).data.toList := fun k hk => by
    rcases (show k = 0 ∨ k = 1 by omega) with rfl | rfl
    · rfl
    · rfl
  have hi2 : ∀ i, i < 2 → i = 0 ∨ i = 1 := fun i hi => by omega
  refine ⟨good0, ⟨0, by omega, by show opT s (mS M00 s 0 0) = _; rw [h0 0 (by omega)]; exact img_op hs good0⟩, fun k hk i hi l' h' => ?_, fun k hk i hi => ?_⟩
  · rcases hi2 i hi with rfl | rfl
    · rw [h0 k hk, img_op hs good0] at h'
      exact .inl (Option.some.inj h').symm
    · rw [h1 k hk, opT_noughts] at h'; cases h'
  · rcases hi2 i hi with rfl | rfl
    · rw [h0 k hk]; exact ⟨_, .inr ⟨[], good0, rfl, by show 0 < _; simp⟩, rfl⟩
    · rw [h1 k hk]; exact ⟨_, .inl rfl, rfl⟩
/-! ### what newest finds -/
theorem bst_of {D : Nat → Dv} {s : Nat} {m : List Int} (hb : ∀ r, r < 4 → ∀ x, opn s (rdT D s r) = some x → x = m ∨ x.length < m.length) : ∀ r, r ≤ 4 → (∀ x, bst D s r = some x → x = m ∨ x.length < m.length) ∧ ∀ r0, r0 < r → opn s (rdT D s r0) = some m → bst D s r = some m
  | 0, _ => ⟨fun x hx => (by cases hx), fun r0 h => by omega⟩
  | r + 1, h => by
    obtain ⟨a, b⟩ := bst_of hb r (by omega)
    obtain ⟨c, d⟩ := best_ok a (hb r (by omega))
    rw [bst_succ]
    refine ⟨c, fun r0 h0 hm => d ?_⟩
    by_cases e : r0 = r
    · subst e; exact .inr hm
    · exact .inl (b r0 (by omega) hm)
theorem Cf.readT {D : Dv} {M : Nat → ByteArray} {f : Nat} (h : Cf D M f) {i : Nat} (hi : i < 4) : D.readT (i : Nat) = M i := by
  have hE : D.readE (i : Nat) = 0 := by unfold Dv.readE; rw [h.refuse, h.ck.has hi, h.ck.bad i hi]; rfl
  unfold Dv.readT
  rw [if_pos hE, Int.toNat_natCast, ← h.ck.med i hi]
  unfold Dv.reads
  rw [h.ck.cache]; rfl
theorem TOk.best {D : Nat → Dv} {M : Nat → Nat → ByteArray} {f : Nat → Nat} (hD : ∀ t, t < 2 → Cf (D t) (M t) (f t)) {s : Nat} (hs : s < 2) {l : List Int} {kk : Nat} (h : TOk M s l kk) : bst D s 4 = some l := by
  have hr : ∀ k, k < 2 → ∀ i, i < 2 → opn s (rdT D s (2 * k + i)) = opT s (mS M s k i) := fun k hk i hi => by
    have hp : kpP s ((2 * k + i) / 2) = if k = 0 then s else 1 - s := by
      unfold kpP; rw [show (2 * k + i) / 2 = k by omega]
    have hlt : (if k = 0 then s else 1 - s) < 2 := by split <;> omega
    unfold rdT mS
    rw [hp]
    generalize (if k = 0 then s else 1 - s) = t at hlt
    rw [(hD t hlt).readT (by omega)]; rfl
  have hb : ∀ r, r < 4 → ∀ x, opn s (rdT D s r) = some x → x = l ∨ x.length < l.length := fun r hr4 x hx => by
    have := hr (r / 2) (by omega) (r % 2) (by omega)
    rw [show 2 * (r / 2) + r % 2 = r by omega] at this
    exact h.low (r / 2) (by omega) (r % 2) (by omega) x (by rw [← this]; exact hx)
  obtain ⟨k, hk, ho⟩ := h.one
  exact (bst_of hb 4 (Nat.le_refl _)).2 (2 * k + l.length % 2) (by omega) (by rw [hr k hk _ (by omega)]; exact ho)
theorem EqR.cf {D E : Nat → Dv} (h : EqR D E) {t : Nat} {M : Nat → ByteArray} {f : Nat} (hc : Cf (D t) M f) : Cf (E t) M f := by
  obtain ⟨n, hn⟩ := h t
  rw [hn]
  have o := hc.ck.ok
  exact ⟨⟨hc.ck.dead, hc.ck.lose, hc.ck.stray, hc.ck.n, hc.ck.size, hc.ck.cache, hc.ck.med, hc.ck.bad, ⟨o.n8, o.n4096, o.s128, o.s1024, o.media, o.text, o.sector, o.fuse, o.lose, o.stray⟩⟩, hc.off, hc.fuse⟩
theorem cf_sz {D : Nat → Dv} {M : Nat → Nat → ByteArray} {f : Nat → Nat} (hD : ∀ t, t < 2 → Cf (D t) (M t) (f t)) : Sz D := fun s hs => ⟨by rw [(hD s hs).ck.n]; rfl, by rw [(hD s hs).ck.size]; rfl, by rw [(hD s hs).ck.cache]; exact Nat.zero_le _⟩
section
variable {w0 w w' : World} {X : List Nat} {q : Nat} {pd : Nat → Nat} {m : Nat → List Int} {D : Nat → Dv}
/-- a call of one of its devices -/
theorem CPe.devX {f : FuncId} {args : Array Value} {R : Ending → Prop} {s : Nat} {G : Dv → Prop} (h : CPe w0 X q pd m D w) (hs : s < 2)
    (call : ∀ sb cv, DevAt w (pd s) sb cv (D s) → (∀ k, foot (pd s) sb cv k → k ∉ X) → Calls Tryz.prog f args w fun e w' => R e ∧ ∃ E, G E ∧ Now (pd s) sb cv w E w') :
    Calls Tryz.prog f args w fun e w' => R e ∧ ∃ E, G E ∧ CPe w0 X q pd m (upd D s E) w' ∧ Same (q :: X) w w' := by
  have hql := h.lt
  obtain ⟨⟨sb, cv, hdv, hf, hff⟩, hp, hq, hx, hb⟩ := h
  refine (call (sb s) (cv s) (hdv s hs) fun k hk => (hf s hs k hk).2.1).mono ?_
  rintro e w' ⟨hr, E, hG, cv', hch, hd', hf'⟩
  have hfs := hf s hs
  have hlow : ∀ k, w.heap.size ≤ k → w0.heap.size ≤ k ∧ k ∉ X ∧ k ≠ q := fun k hk => ⟨Nat.le_trans hb.size hk, fun e => by have := (hx k e).2; omega, fun e => by omega⟩
  have hnew : ∀ k, foot (pd s) (sb s) cv' k → w0.heap.size ≤ k ∧ k ∉ X ∧ k ≠ q := fun k hk => by
    rcases hf' k hk with h | h
    · exact hfs k h
    · exact hlow k h
  have hqs : w'.heap[q]? = w.heap[q]? := hch.block q hql fun e => (hfs q e).2.2 rfl
  have hsame : Same (q :: X) w w' := fun k hk => by
    rcases List.mem_cons.1 hk with rfl | hk
    · exact hqs
    · exact hch.block k (hx k hk).2 fun e => (hfs k e).2.1 hk
  refine ⟨hr, E, hG, ⟨⟨sb, fun t => if t = s then cv' else cv t, ?_, ?_, ?_⟩, hp.same hqs, hq, fun k hk => ⟨(hx k hk).1, Nat.lt_of_lt_of_le (hx k hk).2 hch.size⟩, hb.trans (hch.below hb.size fun k hk => (hfs k hk).1)⟩, hsame⟩
  · intro t ht
    by_cases e : t = s
    · subst e; simp only [if_pos]; rw [upd_same]; exact hd'
    · simp only [if_neg e]; rw [upd_ne _ _ e]
      refine (hdv t ht).chg hch fun k hk hk2 => ?_
      rcases (show (t = 0 ∧ s = 1) ∨ (t = 1 ∧ s = 0) by omega) with ⟨rfl, rfl⟩ | ⟨rfl, rfl⟩
      · exact hff k hk hk2
      · exact hff k hk2 hk
  · intro t ht k hk
    by_cases e : t = s
    · subst e; simp only [if_pos] at hk; exact hnew k hk
    · simp only [if_neg e] at hk; exact hf t ht k hk
  · intro k hk hk2
    rcases (show s = 0 ∨ s = 1 by omega) with rfl | rfl
    · simp only [if_pos] at hk
      simp only [if_neg (show ¬ (1 : Nat) = 0 by omega)] at hk2
      rcases hf' k hk with h | h
      · exact hff k h hk2
      · have := (hdv 1 (by omega)).lt k hk2; omega
    · simp only [if_pos] at hk2
      simp only [if_neg (show ¬ (0 : Nat) = 1 by omega)] at hk
      rcases hf' k hk2 with h | h
      · exact hff k hk h
      · have := (hdv 0 (by omega)).lt k hk; omega
end
section
variable {w0 w w' : World} {X : List Nat} {q pa pb : Nat} {m : Nat → List Int} {D : Nat → Dv} {M : Nat → Nat → ByteArray}
/-- Open finds both tables; the elder pair stands beside it -/
theorem open_t (h : CPe w0 X q (pdOf pa pb) m D w) (hD : ∀ t, t < 2 → Cf (D t) (M t) 0) {L : Nat → List Int} {kk : Nat} (hL : ∀ s, s < 2 → TOk M s (L s) kk) :
    Calls Tryz.prog 19 #[.pointer (some ⟨pa, 0, none⟩), .pointer (some ⟨pb, 0, none⟩), .int .i64 4] w fun e w' => ∃ q' E, e = .returned (.tuple #[.pointer (some ⟨q', 0, none⟩), .int .i64 0]) ∧ (∀ t, t < 2 → Cf (E t) (M t) 0) ∧ CPe w0 (q :: X) q' (pdOf pa pb) L E w' ∧ PB w' q (pdOf pa pb) m ∧ Same X w w' := by
  have hb : ∀ s, s < 2 → bst D s 4 = some (L s) := fun s hs => TOk.best hD hs (hL s hs)
  have hE : opE2 D = 0 := by unfold opE2; rw [if_pos ⟨by rw [hb 0 (by omega)]; rfl, by rw [hb 1 (by omega)]; rfl⟩]
  refine (open_e h.dvs (cf_sz hD) (fun s hs => (hD s hs).off)).mono ?_
  rintro e w' ⟨q', E, m', rfl, hm, hq', hq, hc', hsm⟩
  have hm2 : m' = opnM D 2 := hm hE
  rw [hE]
  refine ⟨q', E, rfl, fun t ht => hq.cf (hD t ht), hc'.cong (fun s hs => ?_) (fun _ _ => rfl), h.pb.same (hsm q (by simp)), fun k hk => hsm k (by simp [hk])⟩
  rw [hm2]
  unfold opnM
  rw [if_pos hs, hb s hs]; rfl
theorem fuse_e (h : CPe w0 X q (pdOf pa pb) m D w) {s : Nat} (hs : s < 2) (n : Nat) (hn : n ≤ 100) (v : Int) (hv : v = n) (p : Nat) (hp : p = pdOf pa pb s) :
    Calls Tryz.prog 23 #[.pointer (some ⟨p, 0, none⟩), .int .i64 v] w fun e w' => e = .returned (.tuple #[]) ∧ CPe w0 X q (pdOf pa pb) m (upd D s { D s with fuse := n }) w' ∧ Same X w w' := by
  subst hp; subst hv
  refine (h.dev (R := fun e => e = .returned (.tuple #[])) (G := fun E => E = { D s with fuse := n }) hs fun sb cv hd => (fuse_any (n : Nat) w hd (by omega)).mono ?_).mono ?_
  · rintro e w' ⟨rfl, hc, hd'⟩
    exact ⟨rfl, _, by rw [Int.toNat_natCast], .same hc hd'⟩
  · rintro e w' ⟨rfl, E, rfl, hc, hsm⟩
    exact ⟨rfl, hc, fun k hk => hsm k (by simp [hk])⟩
theorem Cf.fused {D : Dv} {M : Nat → ByteArray} {f : Nat} (h : Cf D M f) (n : Nat) (hn : n ≤ 100) : Cf { D with fuse := n } M n := by
  have o := h.ck.ok
  exact ⟨⟨h.ck.dead, h.ck.lose, h.ck.stray, h.ck.n, h.ck.size, h.ck.cache, h.ck.med, h.ck.bad, ⟨o.n8, o.n4096, o.s128, o.s1024, o.media, o.text, o.sector, by show n ≤ _; omega, o.lose, o.stray⟩⟩, h.off, rfl⟩
/-- the fates lie in X -/
def Fates (w : World) (X : List Nat) (v : Value) (n : Nat) (fs : List Int) : Prop := fs.length = n ∧ ∃ fa cap, v = .slice fa n cap ∧ Row .i64 w fa n fs ∧ ∀ a, fa = some a → a.block ∈ X
theorem Fates.keep {v : Value} {n : Nat} {fs : List Int} (h : Fates w X v n fs) (hs : Same X w w') : Fates w' X v n fs := by
  obtain ⟨h1, fa, cap, h2, ⟨h3, h4⟩, h5⟩ := h
  refine ⟨h1, fa, cap, h2, ⟨h3, fun hn => ?_⟩, h5⟩
  obtain ⟨b, o, e, hc⟩ := h4 hn
  refine ⟨b, o, e, fun i hi => ?_⟩
  have := hc i hi
  unfold World.cell? at this ⊢
  rw [hs b (h5 _ e)]; exact this
theorem crash_e (h : CPe w0 X q (pdOf pa pb) m D w) {s : Nat} (hs : s < 2) (hl : (D s).cache.length ≤ 1000000) {v : Value} {n : Nat} {fs : List Int} (hn : n ≤ 1000000) (hf : Fates w X v n fs) (hfb : ∀ f ∈ fs, f ≤ 9223372036854775807) (p : Nat) (hp : p = pdOf pa pb s) :
    Calls Tryz.prog 24 #[.pointer (some ⟨p, 0, none⟩), v] w fun e w' => e = .returned (.tuple #[]) ∧ CPe w0 X q (pdOf pa pb) m (upd D s ((D s).crashD fs)) w' ∧ Same X w w' := by
  subst hp
  obtain ⟨h1, fa, cap, rfl, hrow, hap⟩ := hf
  refine (h.devX (R := fun e => e = .returned (.tuple #[])) (G := fun E => E = (D s).crashD fs) hs fun sb cv hd hft => (crash_any fa n cap fs w hd (by omega) (by omega) hrow (fun a e hk => hft _ hk (hap a e)) hfb).mono ?_).mono ?_
  · rintro e w' ⟨rfl, hn⟩
    exact ⟨rfl, _, rfl, hn⟩
  · rintro e w' ⟨rfl, E, rfl, hc, hsm⟩
    exact ⟨rfl, hc, fun k hk => hsm k (by simp [hk])⟩
theorem format_t (h : Two w0 pa pb w) : Calls Tryz.prog 28 #[.pointer (some ⟨pa, 0, none⟩), .pointer (some ⟨pb, 0, none⟩), .int .i64 4] w fun e w' => ∃ q D, e = .returned (.tuple #[.pointer (some ⟨q, 0, none⟩), .int .i64 0]) ∧ CPe w0 [] q (pdOf pa pb) (fun _ => []) D w' ∧ ∀ t, t < 2 → Cf (D t) (M00 t) 0 := by
  refine (format_e h.dvs (both00.sz (by omega))).mono ?_
  rintro e w' ⟨q, rfl, hq, hc, -⟩
  obtain ⟨k0, k1⟩ := fresh_kb
  rw [k0]
  exact ⟨q, _, rfl, hc, k1⟩
theorem fresh_t (w : World) : Calls Tryz.prog 8 #[] w fun e w' => ∃ pa pb q D, e = .returned (.tuple #[.pointer (some ⟨pa, 0, none⟩), .pointer (some ⟨pb, 0, none⟩), .pointer (some ⟨q, 0, none⟩), .bool true]) ∧ CPe w [] q (pdOf pa pb) (fun _ => []) D w' ∧ ∀ t, t < 2 → Cf (D t) (M00 t) 0 := by
  go_enter Tryz.func8, Tryz.ntmps8
  go_wp2_with fail
  refine (devices_any w).mono ?_
  rintro e w1 ⟨pa, pb, rfl, ht⟩
  have HT := Lib.hid ht
  clear ht
  go_wp2_with fail
  refine (format_t HT.out).mono ?_
  rintro e w2 ⟨q, D, rfl, hc, hd⟩
  have HC := Lib.hid hc
  have HD := Lib.hid hd
  clear hc hd HT
  go_wp2_with fail
  refine bodyPost_ret (v := .tuple #[.pointer (some ⟨pa, 0, none⟩), .pointer (some ⟨pb, 0, none⟩), .pointer (some ⟨q, 0, none⟩), .bool true]) (by simp [results, Tryz.results8, go_sem]) rfl ⟨_, _, _, _, rfl, HC.out, HD.out⟩
theorem fates_of {wc : World} {v : Value} {n : Nat} {fs : List Int} (h : CPe w0 [] q (pdOf pa pb) m D wc) (hb : Below wc.heap.size wc w) (hrow : w.ownsRow wc.heap.size 54 1 v n (fs.map (Value.int .i64))) : ∃ X, CPe w0 X q (pdOf pa pb) m D w ∧ Fates w X v n fs := by
  have hlen : fs.length = n := by have := hrow.1; simpa using this
  rcases hrow.2 with ⟨rfl, h0⟩ | ⟨g, cap, cur, rfl, hg, _⟩
  · subst h0
    exact ⟨[], h.later hb, hlen, none, 0, rfl, ⟨hlen, fun h => by omega⟩, fun a e => by cases e⟩
  · refine ⟨[g], h.add hb hg (hrow.lt g rfl).2, hlen, some ⟨g, 0, none⟩, cap, rfl, ⟨hlen, fun _ => ⟨_, _, rfl, fun i hi => ?_⟩⟩, fun a e => by cases e; simp⟩
    rw [show (⟨g, 0 + i, none⟩ : Addr) = ⟨g, i, none⟩ by rw [Nat.zero_add], hrow.cellAt i (by omega), List.getElem?_map, List.getElem?_eq_getElem (by omega), List.getD_eq_getElem?_getD, List.getElem?_eq_getElem (by omega)]; rfl
theorem info_fate : (Tryz.prog.info? 54).map (fun i => (i.zero, i.size, i.bytes)) = some (some (.int .i64 0), 1, 8) := by kernel_rfl
end
/-- behind Open: the new pair, the elder one, and both tables that are held -/
structure Fin (w0 : World) (X : List Nat) (q q' pa pb : Nat) (m' L : Nat → List Int) (E : Nat → Dv) (b18 b19 : Nat) (l : List Int) (N K : Int) (n : List Int) (v : Value) (t : Nat) (fs : List Int) (w : World) : Prop where
  cp : CPe w0 (q :: b19 :: b18 :: X) q' (pdOf pa pb) L E w
  pb_ : PB w q (pdOf pa pb) m'
  t18 : TAt w b18 12 4 l
  t19 : TAt w b19 N K n
  fa : Fates w (b19 :: b18 :: X) v t fs
section
variable {w0 w w' : World} {X : List Nat} {q q' pa pb : Nat} {m' L : Nat → List Int} {E : Nat → Dv} {b18 b19 : Nat} {l : List Int} {N K : Int} {n : List Int} {v : Value} {t : Nat} {fs : List Int}
theorem Fin.later (h : Fin w0 X q q' pa pb m' L E b18 b19 l N K n v t fs w) (hb : Below w.heap.size w w') : Fin w0 X q q' pa pb m' L E b18 b19 l N K n v t fs w' :=
  ⟨h.cp.later hb, h.pb_.later hb, h.t18.on hb, h.t19.on hb, h.fa.keep fun k hk => hb.block k (h.cp.x k (by simp at hk ⊢; exact .inr hk)).2⟩
theorem Fin.qt (h : Fin w0 X q q' pa pb m' L E b18 b19 l N K n v t fs w) {s : Nat} (hs : s < 2) {z : List Int} (hz : L s = z) (i : Int) (hi : i = s) : Calls Tryz.prog 11 #[.pointer (some ⟨q', 0, none⟩), .int .i64 i] w fun e w' => e = .returned (.agg (ta 12 4 z)) ∧ Fin w0 X q q' pa pb m' L E b18 b19 l N K n v t fs w' := by
  subst hi; subst hz
  exact (table_e h.cp.pb hs).mono fun e w' ⟨a, b⟩ => ⟨a, h.later b⟩
theorem Fin.pt (h : Fin w0 X q q' pa pb m' L E b18 b19 l N K n v t fs w) {s : Nat} (hs : s < 2) {z : List Int} (hz : m' s = z) (i : Int) (hi : i = s) : Calls Tryz.prog 11 #[.pointer (some ⟨q, 0, none⟩), .int .i64 i] w fun e w' => e = .returned (.agg (ta 12 4 z)) ∧ Fin w0 X q q' pa pb m' L E b18 b19 l N K n v t fs w' := by
  subst hi; subst hz
  exact (table_e h.pb_ hs).mono fun e w' ⟨a, b⟩ => ⟨a, h.later b⟩
theorem Fin.tx (h : Fin w0 X q q' pa pb m' L E b18 b19 l N K n v t fs w) {z : List Int} (hg : Tab.Good 12 4 z) {T : ByteArray} (hT : T = txS z) : Calls Tryz.prog 20 #[.agg (ta 12 4 z)] w fun e w' => e = .returned (.string T) ∧ Fin w0 X q q' pa pb m' L E b18 b19 l N K n v t fs w' := by
  subst hT
  exact (Tab.text_any 12 4 z w hg).mono fun e w' ⟨a, b⟩ => ⟨a, h.later b⟩
theorem Fates.back {X' : List Nat} (h : Fates w X' v t fs) (hx : ∃ fa cap, v = .slice fa t cap ∧ ∀ a, fa = some a → a.block ∈ X) : Fates w X v t fs := by
  obtain ⟨h1, fa, cap, rfl, h3, h4⟩ := h
  obtain ⟨fa', cap', e, h5⟩ := hx
  injection e with e1 e2 e3
  subst e1
  exact ⟨h1, fa, cap, rfl, h3, h5⟩
theorem tx_ne (h : n.length = l.length + 1) : txS n ≠ txS l := fun e => by
  have := congrArg ByteArray.size e
  have h1 : (txS n).size = (txL n).length := rfl
  have h2 : (txS l).size = (txL l).length := rfl
  rw [h1, h2, txL_length, txL_length] at this
  omega
end
end Go.Proofs.YtpdickpipdaphaaGreatDoor.Rem

