/- Of Ins: HsMath, HsW3. -/
import Derived.Test.YtgdmgmklncmanaaGreatDoorIns23
import Derived.Test.YtgdmgmklncmanaaGreatDoorIns13
/- The document's products in words of 16 bits are products; its roots are roots. Plain mathematics. -/
namespace Go.Proofs.YtgdmgmklncmanaaGreatDoor

/-- What words of 16 bits say, the lowest first. -/
def vl : List Int → Int
  | [] => 0
  | d :: l => d + 65536 * vl l
theorem vl_zero : ∀ n, vl (List.replicate n 0) = 0
  | 0 => rfl
  | n + 1 => by rw [List.replicate_succ, vl, vl_zero n]; rfl
theorem vl_set : ∀ (L : List Int) (m : Nat) (v : Int), m < L.length → vl (L.set m v) = vl L + (v - L.getD m 0) * 65536 ^ m
  | [], m, v, h => by simp at h
  | d :: l, 0, v, _ => by simp [vl]; omega
  | d :: l, m + 1, v, h => by
    have ih := vl_set l m v (by simpa using h)
    rw [List.set_cons_succ, vl, vl, ih, Int.pow_succ]
    have : (d :: l).getD (m + 1) 0 = l.getD m 0 := rfl
    rw [this, Int.mul_add, ← Int.add_assoc, Int.mul_comm (65536 ^ m) 65536, Int.mul_left_comm]
def Dg (L : List Int) : Prop := ∀ j, 0 ≤ L.getD j 0 ∧ L.getD j 0 < 65536
theorem getD_set (L : List Int) (m j : Nat) (v : Int) (h : m < L.length) : (L.set m v).getD j 0 = if j = m then v else L.getD j 0 := by
  by_cases e : j = m
  · subst e; simp [List.getD, h]
  · rw [if_neg e]; simp [List.getD, Ne.symm e]
theorem Dg.set {L : List Int} (h : Dg L) (m : Nat) (v : Int) (hm : m < L.length) (h0 : 0 ≤ v) (h1 : v < 65536) : Dg (L.set m v) := by
  intro j
  rw [getD_set L m j v hm]
  split
  · exact ⟨h0, h1⟩
  · exact h j
theorem sq_bd {a b : Int} (a0 : 0 ≤ a) (a1 : a < 65536) (b0 : 0 ≤ b) (b1 : b < 65536) : 0 ≤ a * b ∧ a * b ≤ 65535 * 65535 :=
  ⟨Int.mul_nonneg a0 b0, Int.mul_le_mul (by omega) (by omega) b0 (by decide)⟩

theorem vl_take : ∀ (B : List Int) (k : Nat), vl (B.take (k + 1)) = vl (B.take k) + B.getD k 0 * 65536 ^ k
  | [], k => by simp [vl]
  | d :: l, 0 => by simp [vl]
  | d :: l, k + 1 => by
    have ih := vl_take l k
    have : (d :: l).getD (k + 1) 0 = l.getD k 0 := rfl
    rw [List.take_succ_cons, List.take_succ_cons, vl, vl, ih, this, Int.pow_succ]
    grind
/-- Inner steps. -/
theorem tin_sum (A B : List Int) (hA : Dg A) (hB : Dg B) (i : Nat) (out : List Int) (ho : Dg out) (hl : i + 4 < out.length) : ∀ k, k ≤ 4 →
    Dg (tin A B i out k).1 ∧ 0 ≤ (tin A B i out k).2 ∧ (tin A B i out k).2 < 65536 ∧ (∀ j, i + k ≤ j → (tin A B i out k).1.getD j 0 = out.getD j 0)
    ∧ vl (tin A B i out k).1 + (tin A B i out k).2 * 65536 ^ (i + k) = vl out + A.getD i 0 * 65536 ^ i * vl (B.take k)
  | 0, _ => ⟨ho, by simp [tin], by simp [tin], fun _ _ => rfl, by simp [tin, vl]⟩
  | k + 1, hk => by
    obtain ⟨d, c0, c1, z, v⟩ := tin_sum A B hA hB i out ho hl k (by omega)
    have hlen := tin_len A B i out k
    obtain ⟨n, hn⟩ : ∃ n, tnv A B i k (tin A B i out k) = n := ⟨_, rfl⟩
    have e : tin A B i out (k + 1) = ((tin A B i out k).1.set (i + k) (n % 65536), n / 65536) := by rw [tin, hn]
    rw [e]
    have hs := sq_bd (hA i).1 (hA i).2 (hB k).1 (hB k).2
    have hd := d (i + k)
    rw [tnv] at hn
    have hn' : n = (tin A B i out k).1.getD (i + k) 0 + A.getD i 0 * B.getD k 0 + (tin A B i out k).2 := by omega
    have hset := vl_set (tin A B i out k).1 (i + k) (n % 65536) (by omega)
    have htake := vl_take B k
    refine ⟨d.set (i + k) _ (by omega) (by omega) (by omega), by simp only; omega, by simp only; omega, fun j hj => ?_, ?_⟩
    · simp only
      rw [getD_set _ _ _ _ (by omega), if_neg (by omega)]
      exact z j (by omega)
    · simp only
      rw [hset, htake, show i + (k + 1) = (i + k) + 1 from rfl, Int.pow_succ]
      have hm : n % 65536 = n - 65536 * (n / 65536) := by omega
      rw [hm]
      have hp : (65536 : Int) ^ (i + k) = 65536 ^ i * 65536 ^ k := Int.pow_add _ _ _
      generalize (tin A B i out k).1.getD (i + k) 0 = o at *
      generalize A.getD i 0 = a at *
      generalize B.getD k 0 = b at *
      generalize (tin A B i out k).2 = c at *
      generalize vl (tin A B i out k).1 = V at *
      generalize vl (B.take k) = T at *
      generalize vl out = W at *
      generalize n / 65536 = q at *
      generalize (65536 : Int) ^ (i + k) = P at *
      generalize (65536 : Int) ^ i = R at *
      generalize (65536 : Int) ^ k = K at *
      clear hset htake hm hn hs hd d z e hlen
      subst hp
      grind
theorem Dg.zero (n : Nat) : Dg (List.replicate n 0) := by
  intro j
  have : (List.replicate n (0 : Int)).getD j 0 = 0 := by
    rw [List.getD, List.getElem?_replicate]; split <;> rfl
  rw [this]; decide
theorem tout_sum (A B : List Int) (hA : Dg A) (hB : Dg B) (hl : B.length = 4) : ∀ i, i ≤ A.length →
    Dg (tout A B (A.length + 4) i) ∧ (∀ j, i + 4 ≤ j → (tout A B (A.length + 4) i).getD j 0 = 0) ∧ vl (tout A B (A.length + 4) i) = vl (A.take i) * vl B
  | 0, _ => ⟨Dg.zero _, fun j _ => by
      rw [tout, List.getD, List.getElem?_replicate]; split <;> rfl, by rw [tout, vl_zero]; simp [vl]⟩
  | i + 1, hi => by
    obtain ⟨d, z, v⟩ := tout_sum A B hA hB hl i (by omega)
    have hlen := tout_len A B (A.length + 4) i
    obtain ⟨d4, c0, c1, z4, v4⟩ := tin_sum A B hA hB i _ d (by omega) 4 (by omega)
    have hlen4 := tin_len A B i (tout A B (A.length + 4) i) 4
    have e0 : (tin A B i (tout A B (A.length + 4) i) 4).1.getD (i + 4) 0 = 0 := by rw [z4 _ (by omega), z _ (by omega)]
    have e : tout A B (A.length + 4) (i + 1) = (tin A B i (tout A B (A.length + 4) i) 4).1.set (i + 4) (tin A B i (tout A B (A.length + 4) i) 4).2 := by
      rw [tout, e0]
      congr 1
      omega
    rw [e]
    refine ⟨d4.set _ _ (by omega) c0 c1, fun j hj => ?_, ?_⟩
    · rw [getD_set _ _ _ _ (by omega), if_neg (by omega), z4 _ (by omega), z _ (by omega)]
    · rw [vl_set _ _ _ (by omega), e0, vl_take A i]
      have : B.take 4 = B := List.take_of_length_le (by omega)
      rw [this, v] at v4
      generalize vl (tin A B i (tout A B (A.length + 4) i) 4).1 = V at *
      generalize (tin A B i (tout A B (A.length + 4) i) 4).2 = c at *
      grind
theorem timesL_sum (A B : List Int) (hA : Dg A) (hB : Dg B) (hl : B.length = 4) : Dg (timesL A B) ∧ vl (timesL A B) = vl A * vl B := by
  obtain ⟨d, -, v⟩ := tout_sum A B hA hB hl A.length (Nat.le_refl _)
  rw [List.take_length] at v
  exact ⟨d, v⟩
theorem wideL_sum (y : Int) (h0 : 0 ≤ y) (h1 : y < 18446744073709551616) : Dg (wideL y) ∧ vl (wideL y) = y := by
  refine ⟨fun j => ?_, by simp only [wideL, vl]; omega⟩
  match j with
  | 0 => simp [wideL]; omega
  | 1 => simp [wideL]; omega
  | 2 => simp [wideL]; omega
  | 3 => simp [wideL]; omega
  | _ + 4 => simp [wideL]
theorem powL_sum (y : Int) (h0 : 0 ≤ y) (h1 : y < 18446744073709551616) (cube : Bool) : Dg (powL y cube) ∧ vl (powL y cube) = if cube = true then y * y * y else y * y := by
  obtain ⟨d, v⟩ := wideL_sum y h0 h1
  obtain ⟨d2, v2⟩ := timesL_sum (wideL y) (wideL y) d d rfl
  rw [v] at v2
  cases cube
  · rw [powL_f]; exact ⟨d2, v2⟩
  · rw [powL_t]
    obtain ⟨d3, v3⟩ := timesL_sum _ (wideL y) d2 d rfl
    rw [v2, v] at v3
    exact ⟨d3, v3⟩

theorem vl_bd (L : List Int) (h : Dg L) : ∀ k, 0 ≤ vl (L.take k) ∧ vl (L.take k) < 65536 ^ k
  | 0 => by simp [vl]
  | k + 1 => by
    obtain ⟨h0, h1⟩ := vl_bd L h k
    have hd := h k
    rw [vl_take, Int.pow_succ]
    have hp : (0 : Int) ≤ 65536 ^ k := Int.pow_nonneg (by decide)
    have e1 : 0 ≤ L.getD k 0 * 65536 ^ k := Int.mul_nonneg hd.1 hp
    have e2 : L.getD k 0 * 65536 ^ k ≤ 65535 * 65536 ^ k := Int.mul_le_mul_of_nonneg_right (by omega) hp
    omega
theorem abv_low (L : List Int) (h : Dg L) (n : Nat) (p : Int) : ∀ k, k ≤ n → ∀ high rest, abv L n p k high rest = (decide (p < high) || ((high == p) && (rest || decide (0 < vl (L.take k)))))
  | 0, _, high, rest => by simp [abv, vl]
  | k + 1, hk, high, rest => by
    rw [abv, if_neg (by omega), abv_low L h n p k (by omega), vl_take]
    have hd := h k
    have hb := vl_bd L h k
    have hp : (0 : Int) < 65536 ^ k := Int.pow_pos (by decide)
    generalize L.getD k 0 = v at *
    by_cases c : 0 < v
    · have e1 : 0 < v * 65536 ^ k := Int.mul_pos c hp
      have e2 : 0 < vl (L.take k) + v * 65536 ^ k := by omega
      simp [c, e2]
    · have e1 : v = 0 := by omega
      simp [e1]
theorem pow_le {n k : Nat} (h : n ≤ k) : (65536 : Int) ^ n ≤ 65536 ^ k := by
  obtain ⟨d, rfl⟩ := Nat.exists_eq_add_of_le h
  have h1 : (0 : Int) < 65536 ^ n := Int.pow_pos (by decide)
  have h2 : (0 : Int) < 65536 ^ d := Int.pow_pos (by decide)
  rw [Int.pow_add]
  generalize (65536 : Int) ^ n = A at *
  generalize (65536 : Int) ^ d = B at *
  have := Int.mul_le_mul_of_nonneg_left (show 1 ≤ B by omega) (show 0 ≤ A by omega)
  omega
theorem cast_lt2 (p q y : Nat) : ((p : Int) * (q : Int) < (y : Int) * (y : Int)) ↔ p * q < y * y := by norm_cast
theorem cast_lt3 (p q y : Nat) : ((p : Int) * (q : Int) < (y : Int) * (y : Int) * (y : Int)) ↔ p * q < y * y * y := by norm_cast
theorem mul_lt {a b P : Int} (hP : 0 < P) (h : a < b) : a * P + P ≤ b * P := by
  have : (a + 1) * P ≤ b * P := Int.mul_le_mul_of_nonneg_right (by omega) (by omega)
  have e : (a + 1) * P = a * P + P := by grind
  omega
theorem abv_high (L : List Int) (h : Dg L) (n : Nat) (p : Int) (hp1 : p < 1000000) : ∀ k, n ≤ k → ∀ high, 0 ≤ high → abv L n p k high false = decide (p * 65536 ^ n < high * 65536 ^ k + vl (L.take k)) := by
  intro k
  induction k with
  | zero =>
    intro hn high h0
    have : n = 0 := by omega
    subst this
    rw [abv_low L h 0 p 0 (by omega)]
    simp [vl]
  | succ k ih =>
    intro hn high h0
    by_cases c : n ≤ k
    · rw [abv, if_pos c]
      have hd := h k
      have hb := vl_bd L h (k + 1)
      by_cases c2 : 1099511627776 < high
      · rw [if_pos c2]
        symm
        rw [decide_eq_true_eq]
        have hP : (0 : Int) < 65536 ^ n := Int.pow_pos (by decide)
        have e1 := mul_lt (a := p) (b := high) hP (by omega)
        have hQ : (65536 : Int) ^ n ≤ 65536 ^ (k + 1) := pow_le (by omega)
        have e2 : high * 65536 ^ n ≤ high * 65536 ^ (k + 1) := Int.mul_le_mul_of_nonneg_left hQ h0
        omega
      · rw [if_neg c2]
        have e : (high * 65536 % 18446744073709551616 + L.getD k 0) % 18446744073709551616 = high * 65536 + L.getD k 0 := by omega
        rw [e, ih c _ (by omega), vl_take, Int.pow_succ]
        congr 2
        grind
    · have : n = k + 1 := by omega
      subst this
      rw [abv_low L h (k + 1) p (k + 1) (by omega)]
      have hb := vl_bd L h (k + 1)
      have hP : (0 : Int) < 65536 ^ (k + 1) := Int.pow_pos (by decide)
      generalize (65536 : Int) ^ (k + 1) = P at *
      generalize vl (L.take (k + 1)) = V at *
      rw [Bool.eq_iff_iff]
      simp only [Bool.or_eq_true, decide_eq_true_eq, Bool.and_eq_true, beq_iff_eq, Bool.false_or]
      constructor
      · rintro (e | ⟨rfl, e⟩)
        · have := mul_lt hP e
          omega
        · omega
      · intro e
        by_cases c1 : p < high
        · exact .inl c1
        · by_cases c2 : high = p
          · subst c2; exact .inr ⟨rfl, by omega⟩
          · have := mul_lt (a := high) (b := p) hP (by omega)
            omega

/-- The same in plain numbers. -/
def frN (p : Nat) (cube : Bool) : Nat → Nat → Nat
  | 0, x => x
  | b + 1, x => if (if cube = true then p * 2 ^ 96 < (x + 2 ^ b) * (x + 2 ^ b) * (x + 2 ^ b) else p * 2 ^ 64 < (x + 2 ^ b) * (x + 2 ^ b)) then frN p cube b x else frN p cube b (x + 2 ^ b)
theorem frac_num (p : Nat) (hp : p < 1000000) (cube : Bool) : ∀ k x : Nat, x + 2 ^ k ≤ 2 ^ 38 → frac p cube (if cube = true then 6 else 4) (if cube = true then 12 else 8) k x = (frN p cube k x : Nat)
  | 0, x, _ => rfl
  | b + 1, x, hx => by
    rw [Nat.pow_succ] at hx
    have hy : ((x : Int) + 2 ^ b % 18446744073709551616) % 18446744073709551616 = ((x + 2 ^ b : Nat) : Int) := by
      have : ((2 : Int) ^ b) = ((2 ^ b : Nat) : Int) := by simp
      rw [this]
      generalize 2 ^ b = B at *
      have : (2 : Nat) ^ 38 = 274877906944 := by decide
      omega
    have hlt : x + 2 ^ b < 18446744073709551616 := by
      have : (2 : Nat) ^ 38 = 274877906944 := by decide
      generalize 2 ^ b = B at *
      omega
    rw [frac, hy, frN]
    obtain ⟨d, v⟩ := powL_sum ((x + 2 ^ b : Nat) : Int) (by omega) (by omega) cube
    have ih1 := frac_num p hp cube b x (by generalize 2 ^ b = B at *; omega)
    have ih2 := frac_num p hp cube b (x + 2 ^ b) (by generalize 2 ^ b = B at *; omega)
    have hlen := powL_len ((x + 2 ^ b : Nat) : Int) cube
    generalize x + 2 ^ b = y at *
    cases cube
    · have e := abv_high (powL (y : Int) false) d 4 p (by omega) 8 (by omega) 0 (by omega)
      rw [List.take_of_length_le (by rw [hlen]; decide), v] at e
      simp only [Bool.false_eq_true, if_false] at e ih1 ih2 ⊢
      rw [e]
      have hc : (decide ((p : Int) * 65536 ^ 4 < 0 * 65536 ^ 8 + (y : Int) * (y : Int)) = true) ↔ p * 2 ^ 64 < y * y := by
        rw [decide_eq_true_eq, Int.zero_mul, Int.zero_add, show (65536 : Int) ^ 4 = ((2 ^ 64 : Nat) : Int) from by decide +kernel]
        exact cast_lt2 p (2 ^ 64) y
      by_cases c : p * 2 ^ 64 < y * y
      · rw [if_pos (hc.2 c), if_pos c]; exact ih1
      · rw [if_neg (fun h => c (hc.1 h)), if_neg c]; exact ih2
    · have e := abv_high (powL (y : Int) true) d 6 p (by omega) 12 (by omega) 0 (by omega)
      rw [List.take_of_length_le (by rw [hlen]; decide), v] at e
      simp only [if_true] at e ih1 ih2 ⊢
      rw [e]
      have hc : (decide ((p : Int) * 65536 ^ 6 < 0 * 65536 ^ 12 + (y : Int) * (y : Int) * (y : Int)) = true) ↔ p * 2 ^ 96 < y * y * y := by
        rw [decide_eq_true_eq, Int.zero_mul, Int.zero_add, show (65536 : Int) ^ 6 = ((2 ^ 96 : Nat) : Int) from by decide +kernel]
        exact cast_lt3 p (2 ^ 96) y
      by_cases c : p * 2 ^ 96 < y * y * y
      · rw [if_pos (hc.2 c), if_pos c]; exact ih1
      · rw [if_neg (fun h => c (hc.1 h)), if_neg c]; exact ih2
theorem fracP_num (p : Nat) (hp : p < 1000000) (cube : Bool) : fracP p cube = ((frN p cube 38 0 % 4294967296 : Nat) : Int) := by
  rw [fracP, show (0 : Int) = ((0 : Nat) : Int) from rfl, frac_num p hp cube 38 0 (by decide)]
  rfl
end Go.Proofs.YtgdmgmklncmanaaGreatDoor
/- The walk over the document's primes. -/
namespace Go.Proofs.YtgdmgmklncmanaaGreatDoor
open Go.RowKit

def prStep (l : List Nat) (k : Nat) : List Nat := if l.all (fun q => k % q != 0) then l ++ [k] else l
/-- The primes below k + 2. -/
def pr : Nat → List Nat
  | 0 => []
  | k + 1 => prStep (pr k) (k + 2)
theorem pr_pos : ∀ k, ∀ q ∈ pr k, 2 ≤ q ∧ q < k + 2
  | 0, q, h => by simp [pr] at h
  | k + 1, q, h => by
    rw [pr, prStep] at h
    split at h
    · rcases List.mem_append.1 h with h | h
      · have := pr_pos k q h; omega
      · simp at h; omega
    · have := pr_pos k q h; omega
theorem pr_le (k : Nat) : (pr k).length ≤ (pr (k + 1)).length := by
  rw [pr, prStep]; split <;> simp
theorem pr_mono {j k : Nat} (h : j ≤ k) : (pr j).length ≤ (pr k).length := by
  induction k with
  | zero => have : j = 0 := by omega
            subst this; exact Nat.le_refl _
  | succ k ih =>
    by_cases e : j = k + 1
    · subst e; exact Nat.le_refl _
    · exact Nat.le_trans (ih (by omega)) (pr_le k)
theorem pr_309 : (pr 309).length = 63 := by decide +kernel
theorem pr_310 : (pr 310).length = 64 := by decide +kernel
theorem pr_lt {k : Nat} (h : k < 310) : (pr k).length < 64 := by
  have := pr_mono (show k ≤ 309 by omega)
  rw [pr_309] at this; omega
def natsV (l : List Nat) : List Value := l.map fun n : Nat => .int .i64 (n : Int)
theorem natsV_get {l : List Nat} {j : Nat} (h : j < l.length) : (natsV l)[j]? = some (.int .i64 ((l.getD j 0 : Nat) : Int)) := by
  simp [natsV, List.getD, List.getElem?_eq_getElem h]
theorem info_int : (Tryz.prog.info? 3).map (fun i => (i.zero, i.size, i.bytes)) = some (some (.int .i64 0), 1, 8) := by kernel_rfl
theorem all_snoc {f : Nat → Bool} {l : List Nat} {i : Nat} (h : i < l.length) : (l.take (i + 1)).all f = ((l.take i).all f && f (l.getD i 0)) := by
  rw [List.take_succ_eq_append_getElem h, List.all_append]
  simp [List.getD, List.getElem?_eq_getElem h]

theorem rem_cast (q p : Nat) : ((q : Int) % (p : Int) != 0) = (q % p != 0) := by
  rw [← Int.natCast_emod]
  by_cases h : q % p = 0
  · simp [h]
  · have h1 : (q % p != 0) = true := by simpa using h
    have h2 : (((q % p : Nat) : Int) != 0) = true := by simp only [bne_iff_ne, ne_eq]; omega
    rw [h1, h2]

set_option maxRecDepth 8000 in
set_option maxHeartbeats 1000000 in
theorem primes_any (w : World) :
    Calls Tryz.prog 50 #[.int .i64 64] w fun e w' => ∃ v, e = .returned v ∧ w'.ownsRow w.heap.size 3 1 v 64 (natsV (pr 310)) ∧ Below w.heap.size w w' := by
  obtain ⟨i0, hi, hz0, hz1, hz2⟩ := info_parts' info_int
  go_enter Tryz.func50, Tryz.ntmps50
  go_wp2_with fail
  go_loopw [3, 4] (fun o k wr => ∃ (n m : Nat) (ao : Option Addr) (cv : Nat), n ≤ 310 ∧ (pr n).length = m ∧ m ≤ 64 ∧ o = .slice ao m cv ∧ k = .int .i64 ((n + 2 : Nat) : Int) ∧ wr.ownsRow w.heap.size 3 1 o m (natsV (pr n)) ∧ Hid (Below w.heap.size w wr)) (fun _ k _ => 312 - (intOf k).toNat)
  case atStart => exact ⟨0, 0, none, 0, by omega, rfl, by omega, rfl, rfl, World.ownsRow_nil _ _ _ _, hide (Below.refl _ _)⟩
  case round =>
    obtain ⟨n, m, ao, cv, hn, hm, hm64, rfl, rfl, hown, HB⟩ := hrel
    obtain ⟨q, hq⟩ : ∃ q, n + 2 = q := ⟨_, rfl⟩
    rw [hq]
    have hsize := HB.out.size
    by_cases hlt : n < 310
    · have hl := pr_lt hlt
      have b1 : (m : Int) < 64 := by omega
      have HO := hide hown
      go_wp2_with fail
      go_loop [5, 6] (fun ok i => ∃ (j : Nat) (b : Bool), j ≤ m ∧ i = .int .i64 j ∧ ok = .bool b ∧ Hid (((pr n).take j).all (fun p => q % p != 0) = b)) (fun _ i => m - (intOf i).toNat)
      case atStart => exact ⟨0, true, by omega, rfl, rfl, hide rfl⟩
      case round =>
        obtain ⟨j, b, hj, rfl, rfl, HA⟩ := hrel
        by_cases hjl : j < m
        · have b2 : (j : Int) < (m : Int) := by omega
          have hjn : j < (pr n).length := by omega
          have hs := all_snoc (f := fun p => q % p != 0) hjn
          rw [HA.out] at hs
          obtain ⟨p, hp⟩ : ∃ p, (pr n).getD j 0 = p := ⟨_, rfl⟩
          have hpm : p ∈ pr n := by rw [← hp, List.getD, List.getElem?_eq_getElem hjn]; exact List.getElem_mem hjn
          have hp2 := (pr_pos n p hpm).1
          cases b
          · have HS : Hid (((pr n).take (j + 1)).all (fun p => q % p != 0) = false) := hide (by rw [hs]; rfl)
            clear hs hp hpm
            go_wp2_with fail
            refine ⟨⟨j + 1, false, by omega, by go_num, rfl, HS⟩, by simp [intOf]; omega⟩
          · obtain ⟨g, cap, hv⟩ := own_form hown (by omega)
            cases hv
            have hc : wr.cell? ⟨g, j, none⟩ = some (.int .i64 ((p : Nat) : Int)) := by
              rw [hown.cellAt _ (by simp; omega), natsV_get hjn, hp]
            have z : ((p : Int) == 0) = false := by simp; omega
            have z' : ¬ (p : Int) = 0 := by omega
            rw [hp] at hs
            have HS := hide hs
            clear hs hp hpm HO hown
            go_wp2_with fail
            refine ⟨⟨j + 1, _, by omega, by go_num, rfl, hide (by rw [HS.out, rem_cast]; rfl)⟩, by simp [intOf]; omega⟩
        · obtain rfl : j = m := by omega
          have hall : (pr n).all (fun p => q % p != 0) = b := by rw [← HA.out, List.take_of_length_le (by omega)]
          cases b
          · have HP : Hid (pr (n + 1) = pr n) := hide (by rw [pr, prStep, hq, hall]; rfl)
            clear hall HA
            go_wp2_with fail
            refine ⟨⟨n + 1, j, ao, cv, by omega, by rw [HP.out]; exact hm, by omega, rfl, by go_num, by rw [HP.out]; exact HO.out, HB⟩, by simp [intOf]; omega⟩
          · have HP : Hid (pr (n + 1) = pr n ++ [q]) := hide (by rw [pr, prStep, hq, hall]; rfl)
            clear hall HA HO
            go_wp2_with (first
              | (at_builtin; refine wpList_append_own _ rfl _ _ 71 rfl w.heap.size 3 i0 (.int .i64 0) 1 8 Tryz.underlying71 hi hz0 hz1 hz2 rfl (by decide) _ _ _ rfl (hown.alloc _) ⟨wr.heap.size, 0, none⟩ 1 1 [.int .i64 (q : Int)] rfl rfl (cell_one_new _ _ _) (fun x hx => by simp at hx; subst hx; rfl) (by unfold maxLen; omega) (by omega) (by simp; omega) ?_; intro v' w3 hown' hgrow3 hnil3))
            obtain ⟨g3, cap3, hv3⟩ := own_form hown' (by omega)
            have hlen : (pr (n + 1)).length = j + 1 := by rw [HP.out]; simp; omega
            refine ⟨⟨n + 1, j + 1, some ⟨g3, 0, none⟩, cap3, by omega, hlen, by omega, hv3, by go_num, ?_, hide ((HB.out.alloc hsize _).grown hgrow3 (by simp; omega) (fun x hx => (hown.lt x hx).1))⟩, by simp [intOf]; omega⟩
            rw [HP.out]
            have e : natsV (pr n ++ [q]) = natsV (pr n) ++ [.int .i64 (q : Int)] := by simp [natsV]
            rw [e]; exact hown'
    · obtain rfl : n = 310 := by omega
      have h64 : m = 64 := by rw [← hm, pr_310]
      subst h64
      go_wp2_with fail
      go_ret
      exact ⟨_, rfl, hown, HB.out⟩
end Go.Proofs.YtgdmgmklncmanaaGreatDoor
