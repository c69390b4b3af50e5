/- Plain mathematics: versions made of numbers below a thousand. -/
import Derived.Test.YtenahjbofhkinaaDoorVerCuts
namespace Go.Proofs.YtenahjbofhkinaaDoor
namespace Ver

def d1 (n : Nat) : UInt8 := (48 + n).toUInt8
theorem d1_nat {n : Nat} (h : n < 10) : (d1 n).toNat = 48 + n := by
  show (UInt8.ofNat (48 + n)).toNat = _
  rw [UInt8.toNat_ofNat']; omega
theorem d1_dig {n : Nat} (h : n < 10) : isD (d1 n) = true := by
  have := d1_nat h
  simp only [isD, this]; simp; omega
theorem dig_ne {c : UInt8} (h : isD c = true) : c ≠ 58 ∧ c ≠ 45 := by
  constructor <;> (rintro rfl; revert h; decide)
/-- A number below a thousand, as it is written. -/
def dg (n : Nat) : List UInt8 := if n < 10 then [d1 n] else if n < 100 then [d1 (n / 10), d1 (n % 10)] else [d1 (n / 100), d1 (n / 10 % 10), d1 (n % 10)]
theorem dg_dig {n : Nat} (h : n < 1000) : ∀ c ∈ dg n, isD c = true := by
  intro c hc
  unfold dg at hc
  split at hc
  · simp at hc; subst hc; exact d1_dig (by omega)
  · split at hc
    · simp at hc; rcases hc with rfl | rfl <;> exact d1_dig (by omega)
    · simp at hc; rcases hc with rfl | rfl | rfl <;> exact d1_dig (by omega)
theorem dg_ne {n : Nat} : dg n ≠ [] := by unfold dg; split <;> (try split) <;> simp
theorem dg_len {n : Nat} : (dg n).length ≤ 3 := by unfold dg; split <;> (try split) <;> simp

/-! ### Rows of digits, cut off -/
theorem pre_dig {D S : List UInt8} (hD : ∀ c ∈ D, isD c = true) (hS : ∀ c, S.head? = some c → isD c = false) : pre isD (D ++ S) = D ∧ suf isD (D ++ S) = S := by
  simp only [pre, suf]
  rw [List.takeWhile_append_of_pos hD, List.dropWhile_append_of_pos hD]
  cases S with
  | nil => simp
  | cons c S => have := hS c rfl; simp [this]
theorem pre_not {D : List UInt8} (hne : D ≠ []) (hD : ∀ c ∈ D, isD c = true) (S : List UInt8) : pre notD (D ++ S) = [] ∧ suf notD (D ++ S) = D ++ S := by
  cases D with
  | nil => exact absurd rfl hne
  | cons c D => have := hD c (by simp); simp [pre, suf, notD, this]
theorem parts_head {X Y : List UInt8} : parts 25 (49 :: 46 :: X) (49 :: 46 :: Y) = parts 24 (46 :: X) (46 :: Y) := by
  have e : ∀ Z : List UInt8, pre notD (49 :: 46 :: Z) = [] ∧ suf notD (49 :: 46 :: Z) = 49 :: 46 :: Z ∧ pre isD (49 :: 46 :: Z) = [49] ∧ suf isD (49 :: 46 :: Z) = 46 :: Z := by
    intro Z
    have h1 : isD 49 = true := by decide
    have h2 : isD 46 = false := by decide
    simp [pre, suf, notD, h1, h2]
  obtain ⟨x1, x2, x3, x4⟩ := e X
  obtain ⟨y1, y2, y3, y4⟩ := e Y
  rw [parts, x1, y1, x2, y2, x3, y3, x4, y4, signs_nil, ord_nums.self]; simp [or3]
theorem parts_dot {D E S T : List UInt8} (hD : ∀ c ∈ D, isD c = true) (hE : ∀ c ∈ E, isD c = true) (nD : D ≠ []) (nE : E ≠ []) (hS : ∀ c, S.head? = some c → isD c = false) (hT : ∀ c, T.head? = some c → isD c = false) :
    parts 24 (46 :: (D ++ S)) (46 :: (E ++ T)) = or3 (nums D E) (parts 23 S T) := by
  have h2 : notD 46 = true := by decide
  have e : ∀ (D S : List UInt8), D ≠ [] → (∀ c ∈ D, isD c = true) → pre notD (46 :: (D ++ S)) = [46] ∧ suf notD (46 :: (D ++ S)) = D ++ S := by
    intro D S n h
    obtain ⟨a, b⟩ := pre_not n h S
    simp only [pre, suf] at a b ⊢
    simp [h2, a, b]
  obtain ⟨x1, x2⟩ := e D S nD hD
  obtain ⟨y1, y2⟩ := e E T nE hE
  obtain ⟨x3, x4⟩ := pre_dig hD hS
  obtain ⟨y3, y4⟩ := pre_dig hE hT
  rw [parts, x1, y1, x2, y2, x3, y3, x4, y4, (ord_signs 25).self]; simp [or3]

/-! ### Numbers -/
def tr (n : Nat) : List UInt8 := if n = 0 then [] else dg n
theorem d1_zero {n : Nat} (h : n < 10) : (d1 n == 48) = decide (n = 0) := by
  have e := d1_nat h
  rw [Bool.eq_iff_iff]; simp only [beq_iff_eq, decide_eq_true_eq]
  rw [← UInt8.toNat_inj, e]; simp
theorem trim_dg {n : Nat} (h : n < 1000) : trim (dg n) = tr n := by
  unfold tr trim dg
  by_cases h1 : n < 10
  · have := d1_zero h1
    by_cases h0 : n = 0
    · subst h0; simp [this]
    · simp [h1, h0, this]
  · by_cases h2 : n < 100
    · have h0 : ¬ n = 0 := by omega
      have := d1_zero (n := n / 10) (by omega)
      have h3 : ¬ n / 10 = 0 := by omega
      simp only [h3, decide_false] at this
      simp [h1, h2, h0, this]
    · have h0 : ¬ n = 0 := by omega
      have := d1_zero (n := n / 100) (by omega)
      have h3 : ¬ n / 100 = 0 := by omega
      simp only [h3, decide_false] at this
      simp [h1, h2, h0, this]
theorem trim_zero (l : List UInt8) : trim (48 :: l) = trim l := by simp [trim]
theorem lex1 {a b : UInt8} : lexb 25 [a] [b] = cmpI a.toNat b.toNat := by
  rw [lexb]; simp only [kb, List.tail, lexb_nil, or3]; split <;> simp_all
theorem lex2 {a b c d : UInt8} : lexb 25 [a, b] [c, d] = or3 (cmpI a.toNat c.toNat) (cmpI b.toNat d.toNat) := by
  rw [lexb, show (24 : Nat) = 23 + 1 from rfl, lexb]; simp only [kb, List.tail, lexb_nil, or3]; split <;> (try split) <;> simp_all
theorem lex3 {a b c d e f : UInt8} : lexb 25 [a, b, c] [d, e, f] = or3 (cmpI a.toNat d.toNat) (or3 (cmpI b.toNat e.toNat) (cmpI c.toNat f.toNat)) := by
  rw [lexb, show (24 : Nat) = 23 + 1 from rfl, lexb, show (23 : Nat) = 22 + 1 from rfl, lexb]; simp only [kb, List.tail, lexb_nil, or3]; (repeat' split) <;> simp_all
theorem tr_len (n : Nat) : (tr n).length = if n = 0 then 0 else if n < 10 then 1 else if n < 100 then 2 else 3 := by
  unfold tr dg; (repeat' split) <;> simp_all
theorem tr_lex {x y : Nat} (hx : x < 1000) (hy : y < 1000) (h : (tr x).length = (tr y).length) : lexb 25 (tr x) (tr y) = cmpI x y := by
  rw [tr_len, tr_len] at h
  by_cases x0 : x = 0
  · have y0 : y = 0 := by simp only [x0, if_true] at h; (repeat' split at h) <;> omega
    subst x0 y0; rw [show tr 0 = [] from rfl, lexb_nil]; rfl
  · by_cases x1 : x < 10
    · have y0 : ¬ y = 0 := by rintro rfl; simp [x0, x1] at h
      have y1 : y < 10 := by simp only [x0, x1, y0, if_true, if_false] at h; (repeat' split at h) <;> omega
      simp only [tr, dg, x0, y0, x1, y1, if_true, if_false, lex1, d1_nat x1, d1_nat y1, cmpI]
      (repeat' split) <;> omega
    · by_cases x2 : x < 100
      · have y0 : ¬ y = 0 := by rintro rfl; simp [x0, x1, x2] at h
        have y1 : ¬ y < 10 := by intro y1; simp [x0, x1, x2, y0, y1] at h
        have y2 : y < 100 := by simp only [x0, x1, x2, y0, y1, if_true, if_false] at h; (repeat' split at h) <;> omega
        have a1 := d1_nat (n := x / 10) (by omega); have a2 := d1_nat (n := x % 10) (by omega)
        have b1 := d1_nat (n := y / 10) (by omega); have b2 := d1_nat (n := y % 10) (by omega)
        simp only [tr, dg, x0, y0, x1, y1, x2, y2, if_true, if_false, lex2, a1, a2, b1, b2, cmpI, or3]
        (repeat' split) <;> omega
      · have y0 : ¬ y = 0 := by rintro rfl; simp [x0, x1, x2] at h
        have y1 : ¬ y < 10 := by intro y1; simp [x0, x1, x2, y0, y1] at h
        have y2 : ¬ y < 100 := by intro y2; simp [x0, x1, x2, y0, y1, y2] at h
        have a1 := d1_nat (n := x / 100) (by omega); have a2 := d1_nat (n := x / 10 % 10) (by omega); have a3 := d1_nat (n := x % 10) (by omega)
        have b1 := d1_nat (n := y / 100) (by omega); have b2 := d1_nat (n := y / 10 % 10) (by omega); have b3 := d1_nat (n := y % 10) (by omega)
        simp only [tr, dg, x0, y0, x1, y1, x2, y2, if_false, lex3, a1, a2, a3, b1, b2, b3, cmpI, or3]
        (repeat' split) <;> omega
theorem nums_dg {x y : Nat} (hx : x < 1000) (hy : y < 1000) : nums (dg x) (48 :: dg y) = cmpI x y := by
  rw [nums, trim_zero, trim_dg hx, trim_dg hy]
  by_cases h : (tr x).length = (tr y).length
  · rw [h, cmpI_self, or3, if_pos rfl, tr_lex hx hy h]
  · have l1 := tr_len x
    have l2 := tr_len y
    generalize (tr x).length = a at *
    generalize (tr y).length = b at *
    have hne : cmpI (a : Int) (b : Int) ≠ 0 := by simp only [cmpI]; (repeat' split) <;> omega
    rw [or3, if_neg hne]
    simp only [cmpI]
    (repeat' split at l1) <;> (repeat' split at l2) <;> (repeat' split) <;> omega

/-! ### The texts that are held against each other -/
def good (c : UInt8) : Bool := isD c || c == 46 || c == 126 || c == 97
theorem good_is {c : UInt8} (h : good c = true) : c ≠ 58 ∧ c ≠ 45 ∧ isM c = true := by
  simp only [good, Bool.or_eq_true, beq_iff_eq] at h
  rcases h with ((h | rfl) | rfl) | rfl
  · exact ⟨(dig_ne h).1, (dig_ne h).2, by simp [isM, isR, h]⟩
  · decide
  · decide
  · decide
theorem cutC_none {l : List UInt8} (h : ∀ c ∈ l, c ≠ 58) : cutC l = ([48], l) := by
  have hc : l.contains 58 = false := by simp; intro hm; exact h 58 hm rfl
  simp only [cutC, hc]; rfl
theorem cutC_first {e : UInt8} {l : List UInt8} (he : e ≠ 58) : cutC (e :: 58 :: l) = ([e], l) := by
  simp [cutC, he, he.symm]
theorem okM_good {l : List UInt8} (h : ∀ c ∈ l, good c = true) (t : List UInt8) (hl : l = 49 :: t) : okM l = true := by
  subst hl
  simp only [okM, allL, List.all_eq_true, Bool.and_eq_true]
  exact ⟨by decide, fun c hc => (good_is (h c hc)).2.2⟩
theorem fine_plain {l : List UInt8} (h : ∀ c ∈ l, good c = true) (t : List UInt8) (hl : l = 49 :: t) (hlen : l.length ≤ 24) : fine l = true ∧ split3 l = ⟨[48], l, [48]⟩ := by
  have e1 : split3 l = ⟨[48], l, [48]⟩ := by
    simp only [split3, cutC_none fun c hc => (good_is (h c hc)).1, cutM_none l fun c hc => (good_is (h c hc)).2.1]
  have hm := okM_good h t hl
  have h1 : 1 ≤ l.length := by subst hl; simp
  refine ⟨?_, e1⟩
  simp only [fine, e1, hm, h1, hlen, decide_true, Bool.and_true, Bool.true_and]; decide
theorem fine_rev {l : List UInt8} (h : ∀ c ∈ l, good c = true) (t : List UInt8) (hl : l = 49 :: t) (hlen : l.length ≤ 22) {r : UInt8} (hr : isD r = true) : fine (l ++ [45, r]) = true ∧ split3 (l ++ [45, r]) = ⟨[48], l, [r]⟩ := by
  have e1 : split3 (l ++ [45, r]) = ⟨[48], l, [r]⟩ := by
    have hc : cutC (l ++ [45, r]) = ([48], l ++ [45, r]) := cutC_none (by
      intro c hc; simp only [List.mem_append, List.mem_cons, List.mem_nil_iff, or_false] at hc
      rcases hc with hc | rfl | rfl
      · exact (good_is (h c hc)).1
      · decide
      · exact (dig_ne hr).1)
    have hm := cutM_split l [r] (by intro x hx; simp at hx; subst hx; exact (dig_ne hr).2)
    simp only [split3, hc, hm]
  have hm := okM_good h t hl
  have hR : okR [r] = true := by simp [okR, allL, isR, hr]
  have h1 : 1 ≤ (l ++ [45, r]).length := by simp
  have h2 : (l ++ [45, r]).length ≤ 24 := by simp; omega
  refine ⟨?_, e1⟩
  simp only [fine, e1, hm, hR, h1, h2, decide_true, Bool.and_true, Bool.true_and]; decide
theorem fine_epoch {l : List UInt8} (h : ∀ c ∈ l, good c = true) (t : List UInt8) (hl : l = 49 :: t) (hlen : l.length ≤ 22) {e : UInt8} (he : isD e = true) : fine (e :: 58 :: l) = true ∧ split3 (e :: 58 :: l) = ⟨[e], l, [48]⟩ := by
  have e1 : split3 (e :: 58 :: l) = ⟨[e], l, [48]⟩ := by
    simp only [split3, cutC_first (dig_ne he).1, cutM_none l fun c hc => (good_is (h c hc)).2.1]
  have hm := okM_good h t hl
  have hE : okE [e] = true := by simp [okE, allL, he]
  have h1 : 1 ≤ (e :: 58 :: l).length := by simp
  have h2 : (e :: 58 :: l).length ≤ 24 := by simp; omega
  refine ⟨?_, e1⟩
  simp only [fine, e1, hm, hE, h1, h2, decide_true, Bool.and_true, Bool.true_and]; decide
theorem compare_of {a b : List UInt8} {u v : V} (ha : fine a = true ∧ split3 a = u) (hb : fine b = true ∧ split3 b = v) : compare a b = (cmpV u v, 0) := by
  simp [compare, ha.1, ha.2, hb.1, hb.2]

def one (x : Nat) : List UInt8 := 49 :: 46 :: dg x
def two (y : Nat) : List UInt8 := 49 :: 46 :: 48 :: dg y
theorem good_dg {x : Nat} (hx : x < 1000) : ∀ c ∈ dg x, good c = true := fun c hc => by simp [good, dg_dig hx c hc]
theorem good_one {x : Nat} (hx : x < 1000) : ∀ c ∈ one x, good c = true := by
  intro c hc; simp only [one, List.mem_cons] at hc
  rcases hc with rfl | rfl | hc
  · decide
  · decide
  · exact good_dg hx c hc
theorem good_two {x : Nat} (hx : x < 1000) : ∀ c ∈ two x, good c = true := by
  intro c hc; simp only [two, List.mem_cons] at hc
  rcases hc with rfl | rfl | rfl | hc
  · decide
  · decide
  · decide
  · exact good_dg hx c hc
theorem good_with {l s : List UInt8} (hl : ∀ c ∈ l, good c = true) (hs : ∀ c ∈ s, good c = true) : ∀ c ∈ l ++ s, good c = true := by
  intro c hc; rcases List.mem_append.1 hc with h | h
  · exact hl c h
  · exact hs c h
theorem len_one (x : Nat) : (one x).length ≤ 5 := by have := @dg_len x; simp [one]; omega
theorem len_two (x : Nat) : (two x).length ≤ 6 := by have := @dg_len x; simp [two]; omega
theorem cmpV_of {e1 e2 m1 m2 r1 r2 : List UInt8} (he : nums e1 e2 = 0) : cmpV ⟨e1, m1, r1⟩ ⟨e2, m2, r2⟩ = or3 (parts 25 m1 m2) (parts 25 r1 r2) := by
  simp [cmpV, he, or3]

theorem res_1 {x y : Nat} (hx : x < 1000) (hy : y < 1000) : compare (one x) (two y) = (cmpI x y, 0) := by
  rw [compare_of (fine_plain (good_one hx) _ rfl (by have := len_one x; omega)) (fine_plain (good_two hy) _ rfl (by have := len_two y; omega))]
  rw [cmpV_of (ord_nums.self _), (ord_parts 25).self [48]]
  have h48 : ∀ c ∈ 48 :: dg y, isD c = true := by
    intro c hc
    rcases List.mem_cons.1 hc with rfl | h
    · decide
    · exact dg_dig hy c h
  have h := parts_dot (D := dg x) (E := 48 :: dg y) (S := []) (T := []) (dg_dig hx) h48 dg_ne (by simp) (by simp) (by simp)
  simp only [List.append_nil] at h
  rw [one, two, parts_head, h, nums_dg hx hy, parts_nil]
  by_cases h0 : cmpI (x : Int) y = 0 <;> simp [or3, h0]
theorem res_2 {x : Nat} (hx : x < 1000) : compare (one x ++ [45, 49]) (one x ++ [45, 50]) = (-1, 0) := by
  have := len_one x
  rw [compare_of (fine_rev (good_one hx) _ rfl (by omega) (by decide)) (fine_rev (good_one hx) _ rfl (by omega) (by decide))]
  rw [cmpV_of (ord_nums.self _), (ord_parts 25).self (one x)]; decide +kernel
theorem one_more {x : Nat} (hx : x < 1000) {S T : List UInt8} (hS : ∀ c, S.head? = some c → isD c = false) (hT : ∀ c, T.head? = some c → isD c = false) : parts 25 (one x ++ S) (one x ++ T) = parts 23 S T := by
  show parts 25 (49 :: 46 :: (dg x ++ S)) (49 :: 46 :: (dg x ++ T)) = _
  rw [parts_head, parts_dot (dg_dig hx) (dg_dig hx) dg_ne dg_ne hS hT, ord_nums.self]; simp [or3]
theorem res_3 {x : Nat} (hx : x < 1000) : compare (one x ++ [126, 97]) (one x) = (-1, 0) := by
  have := len_one x
  rw [compare_of (fine_plain (good_with (good_one hx) (by decide)) _ rfl (by simp; omega)) (fine_plain (good_one hx) _ rfl (by omega))]
  have h := one_more hx (S := [126, 97]) (T := []) (by simp; decide) (by simp)
  simp only [List.append_nil] at h
  rw [cmpV_of (ord_nums.self _), (ord_parts 25).self [48], h]; decide +kernel
theorem res_4 {x : Nat} (hx : x < 1000) : compare (one x ++ [97]) (one x) = (1, 0) := by
  have := len_one x
  rw [compare_of (fine_plain (good_with (good_one hx) (by decide)) _ rfl (by simp; omega)) (fine_plain (good_one hx) _ rfl (by omega))]
  have h := one_more hx (S := [97]) (T := []) (by simp; decide) (by simp)
  simp only [List.append_nil] at h
  rw [cmpV_of (ord_nums.self _), (ord_parts 25).self [48], h]; decide +kernel
theorem res_5 {x y : Nat} (hx : x < 1000) (hy : y < 1000) : compare (49 :: 58 :: one x) (48 :: 58 :: two y) = (1, 0) := by
  have := len_one x
  have := len_two y
  rw [compare_of (fine_epoch (good_one hx) _ rfl (by omega) (by decide)) (fine_epoch (good_two hy) _ rfl (by omega) (by decide))]
  have h : nums [49] [48] = 1 := by decide +kernel
  simp only [cmpV, h, or3]; rfl

/-! ### The order -/
theorem res_bad {a b : List UInt8} (h : (compare a b).2 ≠ 0) : (compare a b).1 = 0 := by
  unfold compare at h ⊢; split <;> simp_all
theorem compare_fine {a b : List UInt8} (ha : fine a = true) (hb : fine b = true) : compare a b = (cmpV (split3 a) (split3 b), 0) := by simp [compare, ha, hb]
theorem compare_not {a b : List UInt8} (h : ¬ (fine a = true ∧ fine b = true)) : compare a b = (0, 2) := by simp only [compare, Bool.and_eq_true]; rw [if_neg h]
theorem three_of (T V Z B : Int) (r1 : T = -1 ∨ T = 0 ∨ T = 1) (r2 : V = -1 ∨ V = 0 ∨ V = 1) (r3 : Z = -1 ∨ Z = 0 ∨ Z = 1) (hB : B = -T)
    (t1 : T ≤ 0 → V ≤ 0 → Z ≤ 0) (t2 : V ≤ 0 → -Z ≤ 0 → -T ≤ 0) (t3 : -Z ≤ 0 → T ≤ 0 → -V ≤ 0) (t4 : -V ≤ 0 → -T ≤ 0 → -Z ≤ 0) (t5 : -T ≤ 0 → Z ≤ 0 → V ≤ 0) (t6 : Z ≤ 0 → -V ≤ 0 → T ≤ 0) :
    (T = 1 ∧ B = -1) ∨ (T = 0 ∧ B = 0 ∧ ((V = -1 ∧ Z = -1) ∨ (V = 0 ∧ Z = 0) ∨ (V = 1 ∧ Z = 1))) ∨ (T = -1 ∧ B = 1 ∧ (V = 1 ∨ (V = -1 ∧ Z = -1) ∨ (V = 0 ∧ Z = -1))) := by
  subst hB
  rcases r1 with rfl | rfl | rfl <;> rcases r2 with rfl | rfl | rfl <;> rcases r3 with rfl | rfl | rfl <;> (revert t1 t2 t3 t4 t5 t6; decide)
/-- What the five answers on three texts can be. -/
theorem tail_cases (a b c : List UInt8) : ∃ t u v p z o bk q sf own : Int,
    compare a b = (t, u) ∧ compare b c = (v, p) ∧ compare a c = (z, o) ∧ compare b a = (bk, q) ∧ compare a a = (sf, own) ∧
    ((u = 2 ∧ t = 0) ∨ (u = 0 ∧ p = 2 ∧ (t = -1 ∨ t = 0 ∨ t = 1)) ∨
     (u = 0 ∧ p = 0 ∧ o = 0 ∧ own = 0 ∧ sf = 0 ∧ ((t = 1 ∧ bk = -1) ∨ (t = 0 ∧ bk = 0 ∧ ((v = -1 ∧ z = -1) ∨ (v = 0 ∧ z = 0) ∨ (v = 1 ∧ z = 1))) ∨ (t = -1 ∧ bk = 1 ∧ (v = 1 ∨ (v = -1 ∧ z = -1) ∨ (v = 0 ∧ z = -1)))))) := by
  by_cases hab : fine a = true ∧ fine b = true
  · obtain ⟨ha, hb⟩ := hab
    have r1 := ord_cmpV.r (split3 a) (split3 b)
    by_cases hc : fine c = true
    · have r2 := ord_cmpV.r (split3 b) (split3 c)
      have r3 := ord_cmpV.r (split3 a) (split3 c)
      have a1 := ord_cmpV.anti (split3 a) (split3 b)
      have a2 := ord_cmpV.anti (split3 b) (split3 c)
      have a3 := ord_cmpV.anti (split3 a) (split3 c)
      have s := ord_cmpV.self (split3 a)
      have t1 := ord_cmpV.tr (split3 a) (split3 b) (split3 c)
      have t2 := ord_cmpV.tr (split3 b) (split3 c) (split3 a)
      have t3 := ord_cmpV.tr (split3 c) (split3 a) (split3 b)
      have t4 := ord_cmpV.tr (split3 c) (split3 b) (split3 a)
      have t5 := ord_cmpV.tr (split3 b) (split3 a) (split3 c)
      have t6 := ord_cmpV.tr (split3 a) (split3 c) (split3 b)
      rw [a1] at t5
      rw [a3, a1] at t2
      rw [a3, a2] at t3
      rw [a2, a1, a3] at t4
      rw [a2] at t6
      exact ⟨_, _, _, _, _, _, _, _, _, _, compare_fine ha hb, compare_fine hb hc, compare_fine ha hc, compare_fine hb ha, compare_fine ha ha, .inr (.inr ⟨rfl, rfl, rfl, rfl, s, three_of _ _ _ _ r1 r2 r3 a1 t1 t2 t3 t4 t5 t6⟩)⟩
    · exact ⟨_, _, _, _, (compare a c).1, (compare a c).2, _, _, _, _, compare_fine ha hb, compare_not (fun h => hc h.2), rfl, compare_fine hb ha, compare_fine ha ha, .inr (.inl ⟨rfl, rfl, r1⟩)⟩
  · exact ⟨_, _, (compare b c).1, (compare b c).2, (compare a c).1, (compare a c).2, (compare b a).1, (compare b a).2, (compare a a).1, (compare a a).2, compare_not hab, rfl, rfl, rfl, rfl, .inl ⟨rfl, rfl⟩⟩
end Ver
end Go.Proofs.YtenahjbofhkinaaDoor
