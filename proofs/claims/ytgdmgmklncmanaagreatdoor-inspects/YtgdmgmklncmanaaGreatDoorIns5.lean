/- Of Ins: RefMath, RefX2, RefX3. -/
import Derived.Test.YtgdmgmklncmanaaGreatDoorIns1
import Derived.Test.YtgdmgmklncmanaaGreatDoorIns4
/- Plain mathematics: the value of a row of digits; rows compared as texts are compared as numbers. -/
namespace Go.Proofs.YtgdmgmklncmanaaGreatDoor
namespace Ver

/-- The value, gathered from the front. -/
def val (l : List UInt8) : Int := l.foldl (fun a c => 10 * a + ((c.toNat : Int) - 48)) 0
theorem val_snoc (l : List UInt8) (c : UInt8) : val (l ++ [c]) = 10 * val l + ((c.toNat : Int) - 48) := by simp [val]
theorem val_take {l : List UInt8} {k : Nat} (h : k < l.length) : val (l.take (k + 1)) = 10 * val (l.take k) + ((l[k].toNat : Int) - 48) := by
  rw [List.take_succ_eq_append_getElem h, val_snoc]
def vr : List UInt8 → Int
  | [] => 0
  | c :: l => ((c.toNat : Int) - 48) * 10 ^ l.length + vr l
theorem val_from (l : List UInt8) : ∀ a : Int, l.foldl (fun a c => 10 * a + ((c.toNat : Int) - 48)) a = a * 10 ^ l.length + vr l := by
  induction l with
  | nil => intro a; simp [vr]
  | cons c l ih =>
    intro a
    rw [List.foldl_cons, ih, vr, List.length_cons, Int.pow_succ]
    generalize (10 : Int) ^ l.length = p
    rw [Int.add_mul, Int.mul_assoc, Int.mul_left_comm, Int.mul_comm p 10]
    omega
theorem val_vr (l : List UInt8) : val l = vr l := by rw [val, val_from]; simp
theorem isD_bd {c : UInt8} (h : isD c = true) : 48 ≤ (c.toNat : Int) ∧ (c.toNat : Int) ≤ 57 := by
  simpa [isD] using h
theorem pow_pos' (n : Nat) : 0 < (10 : Int) ^ n := Int.pow_pos (by decide)
theorem vr_bd : ∀ l : List UInt8, (∀ c ∈ l, isD c = true) → 0 ≤ vr l ∧ vr l < 10 ^ l.length
  | [], _ => by simp [vr]
  | c :: l, h => by
    have ih := vr_bd l fun x hx => h x (by simp [hx])
    have hc := isD_bd (h c (by simp))
    have hp := pow_pos' l.length
    simp only [vr, List.length_cons, Int.pow_succ]
    generalize (10 : Int) ^ l.length = p at *
    generalize (c.toNat : Int) = n at *
    have h1 : 0 ≤ (n - 48) * p := Int.mul_nonneg (by omega) (by omega)
    have h2 : (n - 48) * p ≤ 9 * p := Int.mul_le_mul_of_nonneg_right (by omega) (by omega)
    omega
theorem vr_low {c : UInt8} {l : List UInt8} (h : ∀ x ∈ c :: l, isD x = true) (h0 : c ≠ 48) : 10 ^ l.length ≤ vr (c :: l) := by
  have hc := isD_bd (h c (by simp))
  have hl := vr_bd l fun x hx => h x (by simp [hx])
  have hp := pow_pos' l.length
  have hne : (c.toNat : Int) ≠ 48 := fun e => h0 (UInt8.toNat_inj.1 (show c.toNat = 48 by omega))
  simp only [vr]
  generalize (10 : Int) ^ l.length = p at *
  generalize (c.toNat : Int) = n at *
  have h1 : 1 * p ≤ (n - 48) * p := Int.mul_le_mul_of_nonneg_right (by omega) (by omega)
  omega
theorem pow_mono' {a b : Nat} (h : a ≤ b) : (10 : Int) ^ a ≤ 10 ^ b := by
  obtain ⟨d, rfl⟩ := Nat.exists_eq_add_of_le h
  rw [Int.pow_add]
  have h1 := pow_pos' a
  have h2 := pow_pos' d
  have := Int.mul_le_mul_of_nonneg_left (show (1 : Int) ≤ 10 ^ d by omega) (show (0 : Int) ≤ 10 ^ a by omega)
  omega
theorem trim_vr : ∀ l : List UInt8, vr (trim l) = vr l
  | [] => rfl
  | c :: l => by
    by_cases h : c = 48
    · subst h
      have e : trim (48 :: l) = trim l := by simp [trim]
      rw [e, trim_vr l]; simp [vr]
    · have e : trim (c :: l) = c :: l := by simp [trim, h]
      rw [e]
theorem trim_head {l : List UInt8} {c : UInt8} {t : List UInt8} (h : trim l = c :: t) : c ≠ 48 := by
  induction l with
  | nil => simp [trim] at h
  | cons d l ih =>
    by_cases hd : d = 48
    · subst hd
      have e : trim (48 :: l) = trim l := by simp [trim]
      exact ih (e ▸ h)
    · have e : trim (d :: l) = d :: l := by simp [trim, hd]
      rw [e] at h; injection h with h1 h2; exact h1 ▸ hd
theorem trim_sub (l : List UInt8) : ∀ c ∈ trim l, c ∈ l := fun _ h => (List.dropWhile_suffix _).subset h
theorem shorter {a b : List UInt8} (ha : ∀ c ∈ a, isD c = true) (hb : ∀ c ∈ b, isD c = true) (h : (trim a).length < (trim b).length) : vr (trim a) < vr (trim b) := by
  have h1 := (vr_bd (trim a) fun c hc => ha c (trim_sub a c hc)).2
  cases hq : trim b with
  | nil => rw [hq] at h; simp at h
  | cons c t =>
    have h2 := vr_low (c := c) (l := t) (fun x hx => hb x (trim_sub b x (hq ▸ hx))) (trim_head hq)
    rw [hq] at h
    have h3 := pow_mono' (a := (trim a).length) (b := t.length) (by simp at h; omega)
    omega
theorem lex_vr : ∀ (n : Nat) (a b : List UInt8), a.length = b.length → a.length < n → (∀ c ∈ a, isD c = true) → (∀ c ∈ b, isD c = true) → lexb n a b = cmpI (vr a) (vr b)
  | 0, _, _, _, h, _, _ => absurd h (by omega)
  | n + 1, [], [], _, _, _, _ => by rw [lexb_nil]; rfl
  | n + 1, [], _ :: _, h, _, _, _ => by simp at h
  | n + 1, _ :: _, [], h, _, _, _ => by simp at h
  | n + 1, c :: a, d :: b, h, hn, ha, hb => by
    have hl : a.length = b.length := by simpa using h
    have ih := lex_vr n a b hl (by simpa using hn) (fun x hx => ha x (by simp [hx])) (fun x hx => hb x (by simp [hx]))
    have b1 := vr_bd a fun x hx => ha x (by simp [hx])
    have b2 := vr_bd b fun x hx => hb x (by simp [hx])
    have hp := pow_pos' b.length
    rw [hl] at b1
    rw [lexb, show kb (c :: a) = c.toNat from rfl, show kb (d :: b) = d.toNat from rfl, show (c :: a).tail = a from rfl, show (d :: b).tail = b from rfl, ih]
    simp only [vr, hl]
    generalize (10 : Int) ^ b.length = p at *
    generalize (c.toNat : Int) = x at *
    generalize (d.toNat : Int) = y at *
    generalize vr a = u at *
    generalize vr b = v at *
    rcases Int.lt_trichotomy x y with h1 | h1 | h1
    · have hm : (x - 48 + 1) * p ≤ (y - 48) * p := Int.mul_le_mul_of_nonneg_right (by omega) (by omega)
      rw [Int.add_mul] at hm
      have h2 : (x - 48) * p + u < (y - 48) * p + v := by omega
      simp only [cmpI, or3, h1, h2, if_true]; simp
    · subst h1
      simp only [cmpI, or3]; (repeat' split) <;> omega
    · have hm : (y - 48 + 1) * p ≤ (x - 48) * p := Int.mul_le_mul_of_nonneg_right (by omega) (by omega)
      rw [Int.add_mul] at hm
      have h2 : (y - 48) * p + v < (x - 48) * p + u := by omega
      have h3 : ¬ x < y := by omega
      have h4 : ¬ (x - 48) * p + u < (y - 48) * p + v := by omega
      simp only [cmpI, or3, h1, h2, h3, h4, if_true, if_false]; simp
/-- Rows of digits are compared as numbers. -/
theorem nums_val {a b : List UInt8} (ha : ∀ c ∈ a, isD c = true) (hb : ∀ c ∈ b, isD c = true) (la : a.length ≤ 24) : nums a b = cmpI (val a) (val b) := by
  have e1 := trim_vr a
  have e2 := trim_vr b
  rw [val_vr, val_vr, nums]
  have hl : (trim a).length ≤ a.length := (List.dropWhile_suffix _).length_le
  rcases Nat.lt_trichotomy (trim a).length (trim b).length with h | h | h
  · have := shorter ha hb h
    have h1 : ((trim a).length : Int) < (trim b).length := by omega
    rw [e1, e2] at this
    simp only [cmpI, or3, h1, this, if_true]; simp
  · rw [h, cmpI_self, or3, if_pos rfl, lex_vr 25 (trim a) (trim b) h (by omega) (fun c hc => ha c (trim_sub a c hc)) (fun c hc => hb c (trim_sub b c hc)), e1, e2]
  · have := shorter hb ha h
    have h1 : ((trim b).length : Int) < (trim a).length := by omega
    have h2 : ¬ ((trim a).length : Int) < (trim b).length := by omega
    rw [e1, e2] at this
    have h3 : ¬ vr a < vr b := by omega
    simp only [cmpI, or3, h1, h2, h3, this, if_true, if_false]; simp
end Ver
end Go.Proofs.YtgdmgmklncmanaaGreatDoor
/- The walks over the document's own answer on paths, beginnings and sizes. -/
namespace Go.Proofs.YtgdmgmklncmanaaGreatDoor
open Go.RowKit

/-- Two strokes side by side. -/
def adj : List UInt8 → Bool
  | [] => false
  | [_] => false
  | a :: b :: l => (a == 47 && b == 47) || adj (b :: l)
theorem index_cons (b : UInt8) (l sub : List UInt8) : decide (0 ≤ Lib.index (b :: l) sub) = (sub.isPrefixOf (b :: l) || decide (0 ≤ Lib.index l sub)) := by
  have h := Lib.index_ge l sub
  rw [Lib.index]
  by_cases h1 : sub.isPrefixOf (b :: l) = true
  · simp [h1]
  · by_cases h2 : Lib.index l sub = -1
    · simp [h1, h2]
    · have h3 : 0 ≤ Lib.index l sub := by omega
      have h4 : 0 ≤ Lib.index l sub + 1 := by omega
      simp [h1, h2, h3, h4]
theorem dbl_adj : ∀ x : List UInt8, Wd.dbl x = adj x
  | [] => by decide
  | [a] => by
    rw [Wd.dbl, Lib.contains, index_cons]
    simp [adj, List.isPrefixOf, Lib.index]
  | a :: b :: l => by
    have ih := dbl_adj (b :: l)
    rw [Wd.dbl, Lib.contains] at ih ⊢
    rw [index_cons, ih, adj]
    congr 1
    simp only [List.isPrefixOf, Bool.and_true]
    rw [Bool.eq_iff_iff]; simp only [Bool.and_eq_true, beq_iff_eq]
    exact ⟨fun h => ⟨h.1.symm, h.2.symm⟩, fun h => ⟨h.1.symm, h.2.symm⟩⟩
theorem adj_snoc : ∀ (l : List UInt8) (a b : UInt8), adj (l ++ [a, b]) = (adj (l ++ [a]) || (a == 47 && b == 47))
  | [], a, b => by simp [adj]
  | [c], a, b => by simp [adj]
  | c :: d :: l, a, b => by
    have ih := adj_snoc (d :: l) a b
    simp only [List.cons_append] at ih ⊢
    rw [adj, adj, ih, Bool.or_assoc]
theorem adj_left : ∀ (l m : List UInt8), adj l = true → adj (l ++ m) = true
  | [], _, h => by simp [adj] at h
  | [_], _, h => by simp [adj] at h
  | a :: b :: l, m, h => by
    have ih := adj_left (b :: l) m
    simp only [List.cons_append] at ih ⊢
    rw [adj, Bool.or_eq_true] at h ⊢
    exact h.imp_right ih
theorem adj_take {x : List UInt8} {k : Nat} (h : k + 1 < x.length) : adj (x.take (k + 2)) = (adj (x.take (k + 1)) || (x[k] == 47 && x[k + 1] == 47)) := by
  have e1 : x.take (k + 1) = x.take k ++ [x[k]] := List.take_succ_eq_append_getElem (by omega)
  have e2 : x.take (k + 2) = x.take k ++ [x[k], x[k + 1]] := by
    have e3 := List.take_succ_eq_append_getElem h
    rw [e1, List.append_assoc] at e3
    exact e3
  rw [e1, e2, adj_snoc]
theorem adj_bad {x : List UInt8} {k : Nat} (h : k + 1 < x.length) (h1 : x[k] = 47) (h2 : x[k + 1] = 47) : adj x = true := by
  have : adj (x.take (k + 2)) = true := by rw [adj_take h, h1, h2]; simp
  have := adj_left _ (x.drop (k + 2)) this
  rwa [List.take_append_drop] at this
theorem adj_on {x : List UInt8} {k : Nat} (h : k < x.length) (ha : adj (x.take k) = false) (hn : k = 0 ∨ x[k] ≠ 47 ∨ ∃ p, x[k - 1] = p ∧ p ≠ 47) : adj (x.take (k + 1)) = false := by
  cases k with
  | zero =>
    rw [List.take_succ_eq_append_getElem h]; simp [adj]
  | succ k =>
    rw [adj_take h, ha]
    rcases hn with h0 | h1 | ⟨p, hp, h2⟩
    · omega
    · simp [h1]
    · simp only [Nat.add_sub_cancel] at hp
      simp [hp, h2]
theorem paS_not {c : UInt8} (h : Wd.paS c = false) : Ver.isD c = false ∧ ¬ (97 ≤ (c.toNat : Int) ∧ (c.toNat : Int) ≤ 122) ∧ (c.toNat : Int) ≠ 45 ∧ (c.toNat : Int) ≠ 46 ∧ (c.toNat : Int) ≠ 47 := by
  simp only [Wd.paS, Wd.nmS, Wd.low, Bool.or_eq_false_iff] at h
  obtain ⟨⟨⟨⟨h1, h2⟩, h3⟩, h4⟩, h5⟩ := h
  refine ⟨h2, ?_, by simpa using h3, by simpa using h4, by simpa using h5⟩
  intro ⟨g1, g2⟩
  simp at h1; omega
theorem path_bad1 {x : List UInt8} {k : Nat} (h : k < x.length) (hf : Wd.paS x[k] = false) : Wd.isPath x = false := by
  rw [Wd.isPath, not_all h hf]; simp
theorem path_bad2 {x : List UInt8} (h : adj x = true) : Wd.isPath x = false := by
  rw [Wd.isPath, dbl_adj, h]; simp
theorem toNat_eq {c : UInt8} {n : Nat} (hn : n < 256) : (c.toNat : Int) = n ↔ c = UInt8.ofNat n := by
  rw [← UInt8.toNat_inj, UInt8.toNat_ofNat', Nat.mod_eq_of_lt hn]; omega

set_option maxRecDepth 100000 in
set_option maxHeartbeats 2000000 in
theorem rIsPath_any (x : List UInt8) (hx : x.length ≤ 2000) (w : World) :
    Calls Tryz.prog 46 #[.string ⟨x.toArray⟩] w fun e w' => e = .returned (.bool (Wd.isPath x)) ∧ w' = w := by
  by_cases hl : 2 ≤ x.length ∧ x.length ≤ 24
  · obtain ⟨h2, h24⟩ := hl
    have g1 : ¬ (x.length : Int) < 2 := by omega
    have g2 : ¬ (24 : Int) < x.length := by omega
    have g3 : (1 : Int) ≤ x.length := by omega
    obtain ⟨c0, d0, hc0, hd0, hhead, hlast⟩ := ends_of h2
    have HH := hide hhead; have HL := hide hlast
    clear hhead hlast
    have hlen : Wd.lenIn x 2 24 = true := by simp [Wd.lenIn]; omega
    by_cases hf : (c0.toNat : Int) = 47
    · have b1 : ((c0.toNat : Int) != 47) = false := by simp [hf]
      have HF := hide (show Wd.headIs (fun c => (c.toNat : Int) == 47) x = true by rw [HH.out]; simp [hf])
      clear hf
      by_cases hz : (d0.toNat : Int) = 47
      · have b2 : ((d0.toNat : Int) == 47) = true := by simp [hz]
        have HB := hide (show Wd.isPath x = false by
          have : (Wd.lastOf x != 47) = false := by rw [HL.out, (toNat_eq (n := 47) (by decide)).1 hz]; rfl
          rw [Wd.isPath, this]; simp)
        clear hz hlen
        go_enter Tryz.func46, Tryz.ntmps46
        go_wp2_with fail
        go_ret
        exact ⟨ret_bool HB.out.symm, rfl⟩
      · have b2 : ((d0.toNat : Int) == 47) = false := by simp [hz]
        have HP := hide (show Wd.isPath x = (!adj x && Ver.allL Wd.paS x) by
          have h1 : (Wd.lastOf x != 47) = true := by rw [HL.out]; exact bne_iff_ne.2 fun e => hz ((toNat_eq (n := 47) (by decide)).2 e)
          rw [Wd.isPath, hlen, HF.out, h1, dbl_adj]; simp)
        clear hz hlen
        go_enter Tryz.func46, Tryz.ntmps46
        go_wp2_with fail
        clear hc0 hd0 b1 b2
        go_loop [3] (fun i => ∃ k : Nat, k ≤ x.length ∧ i = .int .i64 k ∧ (x.take k).all Wd.paS = true ∧ adj (x.take k) = false) (fun i => x.length - (intOf i).toNat)
        case atStart => exact ⟨0, Nat.zero_le _, rfl, rfl, rfl⟩
        case round =>
          obtain ⟨k, hk, rfl, ha, hj⟩ := hrel
          have HA := hide ha; have HJ := hide hj; clear ha hj
          by_cases hlt : k < x.length
          · obtain ⟨c, hc, hcx⟩ : ∃ c, (⟨x.toArray⟩ : ByteArray)[k]'hlt = c ∧ x[k] = c := ⟨_, rfl, rfl⟩
            have HC := hide hcx; clear hcx
            by_cases h47 : (c.toNat : Int) = 47
            · have hce : c = 47 := (toNat_eq (n := 47) (by decide)).1 h47
              have HC47 := hide hce
              have q1 : ((c.toNat : Int) == 47) = true := by simp [h47]
              have q2 : ((c.toNat : Int) != 47) = false := by simp [h47]
              have q3 : ((c.toNat : Int) != 45) = true := by simp [h47]
              have q4 : ((c.toNat : Int) != 46) = true := by simp [h47]
              have q5 : decide (97 ≤ (c.toNat : Int)) = false := by simp; omega
              have q6 : Ver.isD c = false := by rw [hce]; decide
              have hpc : Wd.paS c = true := by rw [hce]; decide
              have HPC := hide hpc
              clear h47 hce hpc
              by_cases hk0 : k = 0
              · have HK0 := hide hk0
                have hki : ¬ (0 : Int) < k := by omega
                clear hk0
                go_wp2_with (go_at_call 35; refine (rdigit_any _ _).mono ?_; rintro e w' ⟨rfl, rfl⟩)
                go_round
                case rel => exact ⟨k + 1, by omega, by go_num, step_all hlt HA.out (by rw [HC.out]; exact HPC.out), adj_on hlt HJ.out (.inl HK0.out)⟩
                case measure => simp [intOf]; omega
              · have hki : (0 : Int) < k := by omega
                have hki' : (1 : Int) ≤ k := by omega
                have hlt1 : k - 1 < x.length := by omega
                obtain ⟨p, hp, hpx⟩ : ∃ p, (⟨x.toArray⟩ : ByteArray)[k - 1]'hlt1 = p ∧ x[k - 1] = p := ⟨_, rfl, rfl⟩
                have HPX := hide hpx; clear hpx
                by_cases hp47 : (p.toNat : Int) = 47
                · have r1 : ((p.toNat : Int) == 47) = true := by simp [hp47]
                  have HB := hide (show Wd.isPath x = false by
                    obtain ⟨j, rfl⟩ : ∃ j, k = j + 1 := ⟨k - 1, by omega⟩
                    exact path_bad2 (adj_bad hlt (HPX.out.trans ((toNat_eq (n := 47) (by decide)).1 hp47)) (HC.out.trans HC47.out)))
                  clear hp47 hk0
                  go_wp2_with (go_at_call 35; refine (rdigit_any _ _).mono ?_; rintro e w' ⟨rfl, rfl⟩)
                  go_ret
                  exact ⟨ret_bool HB.out.symm, rfl⟩
                · have r1 : ((p.toNat : Int) == 47) = false := by simp [hp47]
                  have HNP := hide (show p ≠ 47 from fun e => hp47 ((toNat_eq (n := 47) (by decide)).2 e))
                  clear hp47 hk0
                  go_wp2_with (go_at_call 35; refine (rdigit_any _ _).mono ?_; rintro e w' ⟨rfl, rfl⟩)
                  go_round
                  case rel => exact ⟨k + 1, by omega, by go_num, step_all hlt HA.out (by rw [HC.out]; exact HPC.out), adj_on hlt HJ.out (.inr (.inr ⟨p, HPX.out, HNP.out⟩))⟩
                  case measure => simp [intOf]; omega
            · have HN47 := hide (show c ≠ 47 from fun e => h47 ((toNat_eq (n := 47) (by decide)).2 e))
              have q1 : ((c.toNat : Int) == 47) = false := by simp [h47]
              have q2 : ((c.toNat : Int) != 47) = true := by simp [h47]
              cases hps : Wd.paS c
              · obtain ⟨q6, q5, q3, q4, _⟩ := paS_not hps
                have HB := hide (path_bad1 hlt (by rw [HC.out]; exact hps))
                have q3' : ((c.toNat : Int) != 45) = true := by simp [q3]
                have q4' : ((c.toNat : Int) != 46) = true := by simp [q4]
                have hsmall : (97 ≤ (c.toNat : Int) ∧ decide ((c.toNat : Int) ≤ 122) = false) ∨ (decide (97 ≤ (c.toNat : Int)) = false) := by simp only [decide_eq_false_iff_not]; omega
                clear h47 hps q3 q4 q5
                rcases hsmall with ⟨g5, g6⟩ | g5
                all_goals
                  go_wp2_with (go_at_call 35; refine (rdigit_any _ _).mono ?_; rintro e w' ⟨rfl, rfl⟩)
                  go_ret
                  exact ⟨ret_bool HB.out.symm, rfl⟩
              · have HPC := hide hps
                have hclass : Ver.isD c = true ∨ (Ver.isD c = false ∧ 97 ≤ (c.toNat : Int) ∧ (c.toNat : Int) ≤ 122) ∨ (Ver.isD c = false ∧ decide (97 ≤ (c.toNat : Int)) = false ∧ ((c.toNat : Int) != 45) = false) ∨ (Ver.isD c = false ∧ decide (97 ≤ (c.toNat : Int)) = false ∧ ((c.toNat : Int) != 45) = true ∧ ((c.toNat : Int) != 46) = false) := by
                  cases hd : Ver.isD c
                  · right
                    simp only [Wd.paS, Wd.nmS, Wd.low, Bool.or_eq_true, Bool.and_eq_true, decide_eq_true_eq, beq_iff_eq] at hps
                    simp only [Ver.isD, Bool.and_eq_false_iff, decide_eq_false_iff_not] at hd
                    simp only [decide_eq_false_iff_not, bne_eq_false_iff_eq, bne_iff_ne, true_and]
                    omega
                  · exact .inl rfl
                have hk2 : (0 : Int) < k ∨ ¬ (0 : Int) < k := by omega
                clear h47 hps
                rcases hclass with q6 | ⟨q6, q5, q7⟩ | ⟨q6, q5, q3⟩ | ⟨q6, q5, q3, q4⟩
                all_goals
                  rcases hk2 with hki | hki
                all_goals
                  go_wp2_with (go_at_call 35; refine (rdigit_any _ _).mono ?_; rintro e w' ⟨rfl, rfl⟩)
                  all_goals
                    go_round
                    case rel => exact ⟨k + 1, by omega, by go_num, step_all hlt HA.out (by rw [HC.out]; exact HPC.out), adj_on hlt HJ.out (.inr (.inl (by rw [HC.out]; exact HN47.out)))⟩
                    case measure => simp [intOf]; omega
          · have he := all_end hlt HA.out
            have HE := hide (show Wd.isPath x = true by
              have := HJ.out
              rw [List.take_of_length_le (by omega)] at this
              rw [HP.out, he, this]; rfl)
            clear he
            go_wp2_with fail
            go_ret
            exact ⟨ret_bool HE.out.symm, rfl⟩
    · have b1 : ((c0.toNat : Int) != 47) = true := by simp [hf]
      have HB := hide (show Wd.isPath x = false by
        have : Wd.headIs (fun c => (c.toNat : Int) == 47) x = false := by rw [HH.out]; simp [hf]
        rw [Wd.isPath, this]; simp)
      clear hf hlen
      go_enter Tryz.func46, Tryz.ntmps46
      go_wp2_with fail
      go_ret
      exact ⟨ret_bool HB.out.symm, rfl⟩
  · have HB := hide (show Wd.isPath x = false by
      have : Wd.lenIn x 2 24 = false := by rw [Wd.lenIn, Bool.and_eq_false_iff]; simp; omega
      rw [Wd.isPath, this]; simp)
    have hl' : (x.length : Int) < 2 ∨ (¬ (x.length : Int) < 2 ∧ (24 : Int) < x.length) := by omega
    clear hl
    rcases hl' with g1 | ⟨g1, g2⟩
    all_goals
      go_enter Tryz.func46, Tryz.ntmps46
      go_wp2_with fail
      go_ret
      exact ⟨ret_bool HB.out.symm, rfl⟩
end Go.Proofs.YtgdmgmklncmanaaGreatDoor
/- The walks over the document's own answer on beginnings and sizes. -/
namespace Go.Proofs.YtgdmgmklncmanaaGreatDoor
open Go.RowKit

theorem under_take (x : List UInt8) : Wd.under x = (decide (5 ≤ (x.length : Int)) && (x.take 5 == [47, 118, 97, 114, 47])) := by
  rw [Wd.under, Lib.hasPrefix, Bool.eq_iff_iff]
  rw [List.isPrefixOf_iff_prefix, List.prefix_iff_eq_take]
  simp only [Bool.and_eq_true, decide_eq_true_eq, beq_iff_eq]
  constructor
  · intro h
    have h' : x.take 5 = [47, 118, 97, 114, 47] := h.symm
    refine ⟨?_, h'⟩
    have := congrArg List.length h'
    rw [List.length_take] at this; simp at this; omega
  · intro h; exact h.2.symm

set_option maxHeartbeats 400000 in
theorem rbegins_any (x : List UInt8) (w : World) :
    Calls Tryz.prog 48 #[.string ⟨x.toArray⟩, .string ⟨#[47, 118, 97, 114, 47]⟩] w fun e w' => e = .returned (.bool (Wd.under x)) ∧ w' = w := by
  have e5 : (⟨x.toArray⟩ : ByteArray).extract 0 5 = ⟨(x.take 5).toArray⟩ := list_ext_take x 5
  by_cases h : (5 : Int) ≤ x.length
  · have HU := hide (under_take x)
    go_enter Tryz.func48, Tryz.ntmps48
    go_wp2
    go_ret
    exact ⟨ret_bool (by rw [HU.out]; simp [h]), rfl⟩
  · have HU := hide (show Wd.under x = false by rw [under_take]; simp; omega)
    go_enter Tryz.func48, Tryz.ntmps48
    go_wp2
    go_ret
    exact ⟨ret_bool HU.out.symm, rfl⟩

/-- What a word says as a size; -1: it is none. -/
def sz (x : List UInt8) : Int := if Wd.lenIn x 1 4 = true ∧ ¬ (Wd.headIs (fun c => (c.toNat : Int) == 48) x = true ∧ 1 < x.length) ∧ x.all Ver.isD = true then Ver.val x else -1
theorem ep_le' {x : List UInt8} {m : Nat} (hm : m ≤ 3) (h : (x.take m).all Ver.isD = true) : 0 ≤ Ver.val (x.take m) ∧ Ver.val (x.take m) ≤ 999 := by
  have hb := Ver.vr_bd (x.take m) (List.all_eq_true.1 h)
  rw [← Ver.val_vr] at hb
  have hp := Ver.pow_mono' (a := (x.take m).length) (b := 3) (by rw [List.length_take]; omega)
  have : (10 : Int) ^ 3 = 1000 := by decide
  omega

set_option maxHeartbeats 1000000 in
theorem rsize_any (x : List UInt8) (hx : x.length ≤ 2000) (w : World) :
    Calls Tryz.prog 47 #[.string ⟨x.toArray⟩] w fun e w' => e = .returned (.int .i64 (sz x)) ∧ w' = w := by
  by_cases hl : 1 ≤ x.length ∧ x.length ≤ 4
  · obtain ⟨h1, h4⟩ := hl
    have g1 : ¬ (x.length : Int) < 1 := by omega
    have g2 : ¬ (4 : Int) < x.length := by omega
    have hlen : Wd.lenIn x 1 4 = true := by simp [Wd.lenIn]; omega
    obtain ⟨c0, hc0, hhead⟩ : ∃ c0, (⟨x.toArray⟩ : ByteArray)[0]'(by show 0 < x.length; omega) = c0 ∧ ∀ f, Wd.headIs f x = f c0 := by
      cases x with
      | nil => simp at h1
      | cons c l => exact ⟨c, rfl, fun _ => rfl⟩
    have HH := hide hhead; clear hhead
    by_cases hz : (c0.toNat : Int) = 48 ∧ 1 < x.length
    · obtain ⟨z1, z2⟩ := hz
      have b1 : ((c0.toNat : Int) == 48) = true := by simp [z1]
      have b2 : (1 : Int) < x.length := by omega
      have HB := hide (show sz x = -1 by rw [sz, HH.out]; simp [z1, z2])
      clear z1 hlen
      go_enter Tryz.func47, Tryz.ntmps47
      go_wp2_with fail
      go_ret
      exact ⟨ret_int HB.out.symm, rfl⟩
    · have HS := hide (show sz x = if x.all Ver.isD = true then Ver.val x else -1 by
        have : ¬ (Wd.headIs (fun c => (c.toNat : Int) == 48) x = true ∧ 1 < x.length) := by rw [HH.out]; simpa using hz
        rw [sz]; simp only [hlen, this, not_false_eq_true, true_and])
      have hcase : (((c0.toNat : Int) == 48) = true ∧ ¬ (1 : Int) < x.length) ∨ ((c0.toNat : Int) == 48) = false := by
        by_cases h : (c0.toNat : Int) = 48
        · left; exact ⟨by simp [h], by omega⟩
        · right; simp [h]
      clear hz hlen
      rcases hcase with ⟨b1, b2⟩ | b1
      all_goals
        go_enter Tryz.func47, Tryz.ntmps47
        go_wp2_with fail
        clear hc0 b1
        go_loop [3, 4] (fun n i => ∃ k : Nat, k ≤ x.length ∧ i = .int .i64 k ∧ n = .int .i64 (Ver.val (x.take k)) ∧ (x.take k).all Ver.isD = true) (fun _ i => x.length - (intOf i).toNat)
        case atStart => exact ⟨0, Nat.zero_le _, rfl, rfl, rfl⟩
        case round =>
          obtain ⟨k, hk, rfl, rfl, ha⟩ := hrel
          have HA := hide ha; clear ha
          by_cases hlt : k < x.length
          · obtain ⟨c, hc, hcx⟩ : ∃ c, (⟨x.toArray⟩ : ByteArray)[k]'hlt = c ∧ x[k] = c := ⟨_, rfl, rfl⟩
            have HC := hide hcx; clear hcx
            obtain ⟨v1, v2⟩ := ep_le' (by omega) HA.out
            have hn := Ver.val_take hlt
            rw [HC.out] at hn
            have HN := hide hn; clear hn
            obtain ⟨V, hV⟩ : ∃ V, Ver.val (x.take k) = V := ⟨_, rfl⟩
            rw [hV] at v1 v2 HN ⊢
            clear hV
            cases hd : Ver.isD c
            · have HB := hide (show sz x = -1 by
                have := not_all hlt (f := Ver.isD) (by rw [HC.out]; exact hd)
                rw [Ver.allL] at this
                rw [HS.out, this]; rfl)
              go_wp2_with (go_at_call 35; refine (rdigit_any _ _).mono ?_; rintro e w' ⟨rfl, rfl⟩)
              go_ret
              exact ⟨ret_int HB.out.symm, rfl⟩
            · obtain ⟨d1, d2⟩ := Ver.isD_bd hd
              go_wp2_with (go_at_call 35; refine (rdigit_any _ _).mono ?_; rintro e w' ⟨rfl, rfl⟩)
              go_round
              case rel => exact ⟨k + 1, by omega, by go_num, by rw [HN.out], step_all hlt HA.out (by rw [HC.out]; exact hd)⟩
              case measure => simp [intOf]; omega
          · have hall := all_end hlt HA.out
            rw [Ver.allL] at hall
            have hk' : x.take k = x := List.take_of_length_le (by omega)
            have HB := hide (show sz x = Ver.val x by rw [HS.out, hall]; rfl)
            rw [hk']
            clear hk' hall
            go_wp2_with fail
            go_ret
            exact ⟨ret_int HB.out.symm, rfl⟩
  · have HB := hide (show sz x = -1 by
      have : Wd.lenIn x 1 4 = false := by simp only [Wd.lenIn, Bool.and_eq_false_iff, decide_eq_false_iff_not]; omega
      rw [sz, this]; simp)
    have hl' : (x.length : Int) < 1 ∨ (¬ (x.length : Int) < 1 ∧ (4 : Int) < x.length) := by omega
    clear hl
    rcases hl' with g1 | ⟨g1, g2⟩
    all_goals
      go_enter Tryz.func47, Tryz.ntmps47
      go_wp2_with fail
      go_ret
      exact ⟨ret_int HB.out.symm, rfl⟩
end Go.Proofs.YtgdmgmklncmanaaGreatDoor
