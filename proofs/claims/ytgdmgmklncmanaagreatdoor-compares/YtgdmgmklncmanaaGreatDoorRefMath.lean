/- Plain mathematics: the value of a row of digits; rows compared as texts are compared as numbers. -/
import Derived.Test.YtgdmgmklncmanaaGreatDoorVerMath
namespace Go.Proofs.YtgdmgmklncmanaaGreatDoor
namespace Ver

/-- The value, gathered from the front. -/
def val (l : List UInt8) : Int := l.foldl (fun a c => 10 * a + ((c.toNat : Int) - 48)) 0
theorem val_snoc (l : List UInt8) (c : UInt8) : val (l ++ [c]) = 10 * val l + ((c.toNat : Int) - 48) := by simp [val]
theorem val_take {l : List UInt8} {k : Nat} (h : k < l.length) : val (l.take (k + 1)) = 10 * val (l.take k) + ((l[k].toNat : Int) - 48) := by
  rw [List.take_succ_eq_append_getElem h, val_snoc]
def vr : List UInt8 → Int
  | [] => 0
  | c :: l => ((c.toNat : Int) - 48) * 10 ^ l.length + vr l
theorem val_from (l : List UInt8) : ∀ a : Int, l.foldl (fun a c => 10 * a + ((c.toNat : Int) - 48)) a = a * 10 ^ l.length + vr l := by
  induction l with
  | nil => intro a; simp [vr]
  | cons c l ih =>
    intro a
    rw [List.foldl_cons, ih, vr, List.length_cons, Int.pow_succ]
    generalize (10 : Int) ^ l.length = p
    rw [Int.add_mul, Int.mul_assoc, Int.mul_left_comm, Int.mul_comm p 10]
    omega
theorem val_vr (l : List UInt8) : val l = vr l := by rw [val, val_from]; simp
theorem isD_bd {c : UInt8} (h : isD c = true) : 48 ≤ (c.toNat : Int) ∧ (c.toNat : Int) ≤ 57 := by
  simpa [isD] using h
theorem pow_pos' (n : Nat) : 0 < (10 : Int) ^ n := Int.pow_pos (by decide)
theorem vr_bd : ∀ l : List UInt8, (∀ c ∈ l, isD c = true) → 0 ≤ vr l ∧ vr l < 10 ^ l.length
  | [], _ => by simp [vr]
  | c :: l, h => by
    have ih := vr_bd l fun x hx => h x (by simp [hx])
    have hc := isD_bd (h c (by simp))
    have hp := pow_pos' l.length
    simp only [vr, List.length_cons, Int.pow_succ]
    generalize (10 : Int) ^ l.length = p at *
    generalize (c.toNat : Int) = n at *
    have h1 : 0 ≤ (n - 48) * p := Int.mul_nonneg (by omega) (by omega)
    have h2 : (n - 48) * p ≤ 9 * p := Int.mul_le_mul_of_nonneg_right (by omega) (by omega)
    omega
theorem vr_low {c : UInt8} {l : List UInt8} (h : ∀ x ∈ c :: l, isD x = true) (h0 : c ≠ 48) : 10 ^ l.length ≤ vr (c :: l) := by
  have hc := isD_bd (h c (by simp))
  have hl := vr_bd l fun x hx => h x (by simp [hx])
  have hp := pow_pos' l.length
  have hne : (c.toNat : Int) ≠ 48 := fun e => h0 (UInt8.toNat_inj.1 (show c.toNat = 48 by omega))
  simp only [vr]
  generalize (10 : Int) ^ l.length = p at *
  generalize (c.toNat : Int) = n at *
  have h1 : 1 * p ≤ (n - 48) * p := Int.mul_le_mul_of_nonneg_right (by omega) (by omega)
  omega
theorem pow_mono' {a b : Nat} (h : a ≤ b) : (10 : Int) ^ a ≤ 10 ^ b := by
  obtain ⟨d, rfl⟩ := Nat.exists_eq_add_of_le h
  rw [Int.pow_add]
  have h1 := pow_pos' a
  have h2 := pow_pos' d
  have := Int.mul_le_mul_of_nonneg_left (show (1 : Int) ≤ 10 ^ d by omega) (show (0 : Int) ≤ 10 ^ a by omega)
  omega
theorem trim_vr : ∀ l : List UInt8, vr (trim l) = vr l
  | [] => rfl
  | c :: l => by
    by_cases h : c = 48
    · subst h
      have e : trim (48 :: l) = trim l := by simp [trim]
      rw [e, trim_vr l]; simp [vr]
    · have e : trim (c :: l) = c :: l := by simp [trim, h]
      rw [e]
theorem trim_head {l : List UInt8} {c : UInt8} {t : List UInt8} (h : trim l = c :: t) : c ≠ 48 := by
  induction l with
  | nil => simp [trim] at h
  | cons d l ih =>
    by_cases hd : d = 48
    · subst hd
      have e : trim (48 :: l) = trim l := by simp [trim]
      exact ih (e ▸ h)
    · have e : trim (d :: l) = d :: l := by simp [trim, hd]
      rw [e] at h; injection h with h1 h2; exact h1 ▸ hd
theorem trim_sub (l : List UInt8) : ∀ c ∈ trim l, c ∈ l := fun _ h => (List.dropWhile_suffix _).subset h
theorem shorter {a b : List UInt8} (ha : ∀ c ∈ a, isD c = true) (hb : ∀ c ∈ b, isD c = true) (h : (trim a).length < (trim b).length) : vr (trim a) < vr (trim b) := by
  have h1 := (vr_bd (trim a) fun c hc => ha c (trim_sub a c hc)).2
  cases hq : trim b with
  | nil => rw [hq] at h; simp at h
  | cons c t =>
    have h2 := vr_low (c := c) (l := t) (fun x hx => hb x (trim_sub b x (hq ▸ hx))) (trim_head hq)
    rw [hq] at h
    have h3 := pow_mono' (a := (trim a).length) (b := t.length) (by simp at h; omega)
    omega
theorem lex_vr : ∀ (n : Nat) (a b : List UInt8), a.length = b.length → a.length < n → (∀ c ∈ a, isD c = true) → (∀ c ∈ b, isD c = true) → lexb n a b = cmpI (vr a) (vr b)
  | 0, _, _, _, h, _, _ => absurd h (by omega)
  | n + 1, [], [], _, _, _, _ => by rw [lexb_nil]; rfl
  | n + 1, [], _ :: _, h, _, _, _ => by simp at h
  | n + 1, _ :: _, [], h, _, _, _ => by simp at h
  | n + 1, c :: a, d :: b, h, hn, ha, hb => by
    have hl : a.length = b.length := by simpa using h
    have ih := lex_vr n a b hl (by simpa using hn) (fun x hx => ha x (by simp [hx])) (fun x hx => hb x (by simp [hx]))
    have b1 := vr_bd a fun x hx => ha x (by simp [hx])
    have b2 := vr_bd b fun x hx => hb x (by simp [hx])
    have hp := pow_pos' b.length
    rw [hl] at b1
    rw [lexb, show kb (c :: a) = c.toNat from rfl, show kb (d :: b) = d.toNat from rfl, show (c :: a).tail = a from rfl, show (d :: b).tail = b from rfl, ih]
    simp only [vr, hl]
    generalize (10 : Int) ^ b.length = p at *
    generalize (c.toNat : Int) = x at *
    generalize (d.toNat : Int) = y at *
    generalize vr a = u at *
    generalize vr b = v at *
    rcases Int.lt_trichotomy x y with h1 | h1 | h1
    · have hm : (x - 48 + 1) * p ≤ (y - 48) * p := Int.mul_le_mul_of_nonneg_right (by omega) (by omega)
      rw [Int.add_mul] at hm
      have h2 : (x - 48) * p + u < (y - 48) * p + v := by omega
      simp only [cmpI, or3, h1, h2, if_true]; simp
    · subst h1
      simp only [cmpI, or3]; (repeat' split) <;> omega
    · have hm : (y - 48 + 1) * p ≤ (x - 48) * p := Int.mul_le_mul_of_nonneg_right (by omega) (by omega)
      rw [Int.add_mul] at hm
      have h2 : (y - 48) * p + v < (x - 48) * p + u := by omega
      have h3 : ¬ x < y := by omega
      have h4 : ¬ (x - 48) * p + u < (y - 48) * p + v := by omega
      simp only [cmpI, or3, h1, h2, h3, h4, if_true, if_false]; simp
/-- Rows of digits are compared as numbers. -/
theorem nums_val {a b : List UInt8} (ha : ∀ c ∈ a, isD c = true) (hb : ∀ c ∈ b, isD c = true) (la : a.length ≤ 24) : nums a b = cmpI (val a) (val b) := by
  have e1 := trim_vr a
  have e2 := trim_vr b
  rw [val_vr, val_vr, nums]
  have hl : (trim a).length ≤ a.length := (List.dropWhile_suffix _).length_le
  rcases Nat.lt_trichotomy (trim a).length (trim b).length with h | h | h
  · have := shorter ha hb h
    have h1 : ((trim a).length : Int) < (trim b).length := by omega
    rw [e1, e2] at this
    simp only [cmpI, or3, h1, this, if_true]; simp
  · rw [h, cmpI_self, or3, if_pos rfl, lex_vr 25 (trim a) (trim b) h (by omega) (fun c hc => ha c (trim_sub a c hc)) (fun c hc => hb c (trim_sub b c hc)), e1, e2]
  · have := shorter hb ha h
    have h1 : ((trim b).length : Int) < (trim a).length := by omega
    have h2 : ¬ ((trim a).length : Int) < (trim b).length := by omega
    rw [e1, e2] at this
    have h3 : ¬ vr a < vr b := by omega
    simp only [cmpI, or3, h1, h2, h3, this, if_true, if_false]; simp
end Ver
end Go.Proofs.YtgdmgmklncmanaaGreatDoor
