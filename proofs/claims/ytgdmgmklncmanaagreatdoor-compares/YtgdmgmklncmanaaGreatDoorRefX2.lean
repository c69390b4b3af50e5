/- The walks over the document's own answer on paths, beginnings and sizes. -/
import Derived.Test.YtgdmgmklncmanaaGreatDoorRefX1
import Derived.Test.YtgdmgmklncmanaaGreatDoorRefMath
namespace Go.Proofs.YtgdmgmklncmanaaGreatDoor
open Go.RowKit

/-- Two strokes side by side. -/
def adj : List UInt8 → Bool
  | [] => false
  | [_] => false
  | a :: b :: l => (a == 47 && b == 47) || adj (b :: l)
theorem index_cons (b : UInt8) (l sub : List UInt8) : decide (0 ≤ Lib.index (b :: l) sub) = (sub.isPrefixOf (b :: l) || decide (0 ≤ Lib.index l sub)) := by
  have h := Lib.index_ge l sub
  rw [Lib.index]
  by_cases h1 : sub.isPrefixOf (b :: l) = true
  · simp [h1]
  · by_cases h2 : Lib.index l sub = -1
    · simp [h1, h2]
    · have h3 : 0 ≤ Lib.index l sub := by omega
      have h4 : 0 ≤ Lib.index l sub + 1 := by omega
      simp [h1, h2, h3, h4]
theorem dbl_adj : ∀ x : List UInt8, Wd.dbl x = adj x
  | [] => by decide
  | [a] => by
    rw [Wd.dbl, Lib.contains, index_cons]
    simp [adj, List.isPrefixOf, Lib.index]
  | a :: b :: l => by
    have ih := dbl_adj (b :: l)
    rw [Wd.dbl, Lib.contains] at ih ⊢
    rw [index_cons, ih, adj]
    congr 1
    simp only [List.isPrefixOf, Bool.and_true]
    rw [Bool.eq_iff_iff]; simp only [Bool.and_eq_true, beq_iff_eq]
    exact ⟨fun h => ⟨h.1.symm, h.2.symm⟩, fun h => ⟨h.1.symm, h.2.symm⟩⟩
theorem adj_snoc : ∀ (l : List UInt8) (a b : UInt8), adj (l ++ [a, b]) = (adj (l ++ [a]) || (a == 47 && b == 47))
  | [], a, b => by simp [adj]
  | [c], a, b => by simp [adj]
  | c :: d :: l, a, b => by
    have ih := adj_snoc (d :: l) a b
    simp only [List.cons_append] at ih ⊢
    rw [adj, adj, ih, Bool.or_assoc]
theorem adj_left : ∀ (l m : List UInt8), adj l = true → adj (l ++ m) = true
  | [], _, h => by simp [adj] at h
  | [_], _, h => by simp [adj] at h
  | a :: b :: l, m, h => by
    have ih := adj_left (b :: l) m
    simp only [List.cons_append] at ih ⊢
    rw [adj, Bool.or_eq_true] at h ⊢
    exact h.imp_right ih
theorem adj_take {x : List UInt8} {k : Nat} (h : k + 1 < x.length) : adj (x.take (k + 2)) = (adj (x.take (k + 1)) || (x[k] == 47 && x[k + 1] == 47)) := by
  have e1 : x.take (k + 1) = x.take k ++ [x[k]] := List.take_succ_eq_append_getElem (by omega)
  have e2 : x.take (k + 2) = x.take k ++ [x[k], x[k + 1]] := by
    have e3 := List.take_succ_eq_append_getElem h
    rw [e1, List.append_assoc] at e3
    exact e3
  rw [e1, e2, adj_snoc]
theorem adj_bad {x : List UInt8} {k : Nat} (h : k + 1 < x.length) (h1 : x[k] = 47) (h2 : x[k + 1] = 47) : adj x = true := by
  have : adj (x.take (k + 2)) = true := by rw [adj_take h, h1, h2]; simp
  have := adj_left _ (x.drop (k + 2)) this
  rwa [List.take_append_drop] at this
theorem adj_on {x : List UInt8} {k : Nat} (h : k < x.length) (ha : adj (x.take k) = false) (hn : k = 0 ∨ x[k] ≠ 47 ∨ ∃ p, x[k - 1] = p ∧ p ≠ 47) : adj (x.take (k + 1)) = false := by
  cases k with
  | zero =>
    rw [List.take_succ_eq_append_getElem h]; simp [adj]
  | succ k =>
    rw [adj_take h, ha]
    rcases hn with h0 | h1 | ⟨p, hp, h2⟩
    · omega
    · simp [h1]
    · simp only [Nat.add_sub_cancel] at hp
      simp [hp, h2]
theorem paS_not {c : UInt8} (h : Wd.paS c = false) : Ver.isD c = false ∧ ¬ (97 ≤ (c.toNat : Int) ∧ (c.toNat : Int) ≤ 122) ∧ (c.toNat : Int) ≠ 45 ∧ (c.toNat : Int) ≠ 46 ∧ (c.toNat : Int) ≠ 47 := by
  simp only [Wd.paS, Wd.nmS, Wd.low, Bool.or_eq_false_iff] at h
  obtain ⟨⟨⟨⟨h1, h2⟩, h3⟩, h4⟩, h5⟩ := h
  refine ⟨h2, ?_, by simpa using h3, by simpa using h4, by simpa using h5⟩
  intro ⟨g1, g2⟩
  simp at h1; omega
theorem path_bad1 {x : List UInt8} {k : Nat} (h : k < x.length) (hf : Wd.paS x[k] = false) : Wd.isPath x = false := by
  rw [Wd.isPath, not_all h hf]; simp
theorem path_bad2 {x : List UInt8} (h : adj x = true) : Wd.isPath x = false := by
  rw [Wd.isPath, dbl_adj, h]; simp
theorem toNat_eq {c : UInt8} {n : Nat} (hn : n < 256) : (c.toNat : Int) = n ↔ c = UInt8.ofNat n := by
  rw [← UInt8.toNat_inj, UInt8.toNat_ofNat', Nat.mod_eq_of_lt hn]; omega

set_option maxRecDepth 100000 in
set_option maxHeartbeats 2000000 in
theorem rIsPath_any (x : List UInt8) (hx : x.length ≤ 2000) (w : World) :
    Calls Tryz.prog 46 #[.string ⟨x.toArray⟩] w fun e w' => e = .returned (.bool (Wd.isPath x)) ∧ w' = w := by
  by_cases hl : 2 ≤ x.length ∧ x.length ≤ 24
  · obtain ⟨h2, h24⟩ := hl
    have g1 : ¬ (x.length : Int) < 2 := by omega
    have g2 : ¬ (24 : Int) < x.length := by omega
    have g3 : (1 : Int) ≤ x.length := by omega
    obtain ⟨c0, d0, hc0, hd0, hhead, hlast⟩ := ends_of h2
    have HH := hide hhead; have HL := hide hlast
    clear hhead hlast
    have hlen : Wd.lenIn x 2 24 = true := by simp [Wd.lenIn]; omega
    by_cases hf : (c0.toNat : Int) = 47
    · have b1 : ((c0.toNat : Int) != 47) = false := by simp [hf]
      have HF := hide (show Wd.headIs (fun c => (c.toNat : Int) == 47) x = true by rw [HH.out]; simp [hf])
      clear hf
      by_cases hz : (d0.toNat : Int) = 47
      · have b2 : ((d0.toNat : Int) == 47) = true := by simp [hz]
        have HB := hide (show Wd.isPath x = false by
          have : (Wd.lastOf x != 47) = false := by rw [HL.out, (toNat_eq (n := 47) (by decide)).1 hz]; rfl
          rw [Wd.isPath, this]; simp)
        clear hz hlen
        go_enter Tryz.func46, Tryz.ntmps46
        go_wp2_with fail
        go_ret
        exact ⟨ret_bool HB.out.symm, rfl⟩
      · have b2 : ((d0.toNat : Int) == 47) = false := by simp [hz]
        have HP := hide (show Wd.isPath x = (!adj x && Ver.allL Wd.paS x) by
          have h1 : (Wd.lastOf x != 47) = true := by rw [HL.out]; exact bne_iff_ne.2 fun e => hz ((toNat_eq (n := 47) (by decide)).2 e)
          rw [Wd.isPath, hlen, HF.out, h1, dbl_adj]; simp)
        clear hz hlen
        go_enter Tryz.func46, Tryz.ntmps46
        go_wp2_with fail
        clear hc0 hd0 b1 b2
        go_loop [3] (fun i => ∃ k : Nat, k ≤ x.length ∧ i = .int .i64 k ∧ (x.take k).all Wd.paS = true ∧ adj (x.take k) = false) (fun i => x.length - (intOf i).toNat)
        case atStart => exact ⟨0, Nat.zero_le _, rfl, rfl, rfl⟩
        case round =>
          obtain ⟨k, hk, rfl, ha, hj⟩ := hrel
          have HA := hide ha; have HJ := hide hj; clear ha hj
          by_cases hlt : k < x.length
          · obtain ⟨c, hc, hcx⟩ : ∃ c, (⟨x.toArray⟩ : ByteArray)[k]'hlt = c ∧ x[k] = c := ⟨_, rfl, rfl⟩
            have HC := hide hcx; clear hcx
            by_cases h47 : (c.toNat : Int) = 47
            · have hce : c = 47 := (toNat_eq (n := 47) (by decide)).1 h47
              have HC47 := hide hce
              have q1 : ((c.toNat : Int) == 47) = true := by simp [h47]
              have q2 : ((c.toNat : Int) != 47) = false := by simp [h47]
              have q3 : ((c.toNat : Int) != 45) = true := by simp [h47]
              have q4 : ((c.toNat : Int) != 46) = true := by simp [h47]
              have q5 : decide (97 ≤ (c.toNat : Int)) = false := by simp; omega
              have q6 : Ver.isD c = false := by rw [hce]; decide
              have hpc : Wd.paS c = true := by rw [hce]; decide
              have HPC := hide hpc
              clear h47 hce hpc
              by_cases hk0 : k = 0
              · have HK0 := hide hk0
                have hki : ¬ (0 : Int) < k := by omega
                clear hk0
                go_wp2_with (go_at_call 35; refine (rdigit_any _ _).mono ?_; rintro e w' ⟨rfl, rfl⟩)
                go_round
                case rel => exact ⟨k + 1, by omega, by go_num, step_all hlt HA.out (by rw [HC.out]; exact HPC.out), adj_on hlt HJ.out (.inl HK0.out)⟩
                case measure => simp [intOf]; omega
              · have hki : (0 : Int) < k := by omega
                have hki' : (1 : Int) ≤ k := by omega
                have hlt1 : k - 1 < x.length := by omega
                obtain ⟨p, hp, hpx⟩ : ∃ p, (⟨x.toArray⟩ : ByteArray)[k - 1]'hlt1 = p ∧ x[k - 1] = p := ⟨_, rfl, rfl⟩
                have HPX := hide hpx; clear hpx
                by_cases hp47 : (p.toNat : Int) = 47
                · have r1 : ((p.toNat : Int) == 47) = true := by simp [hp47]
                  have HB := hide (show Wd.isPath x = false by
                    obtain ⟨j, rfl⟩ : ∃ j, k = j + 1 := ⟨k - 1, by omega⟩
                    exact path_bad2 (adj_bad hlt (HPX.out.trans ((toNat_eq (n := 47) (by decide)).1 hp47)) (HC.out.trans HC47.out)))
                  clear hp47 hk0
                  go_wp2_with (go_at_call 35; refine (rdigit_any _ _).mono ?_; rintro e w' ⟨rfl, rfl⟩)
                  go_ret
                  exact ⟨ret_bool HB.out.symm, rfl⟩
                · have r1 : ((p.toNat : Int) == 47) = false := by simp [hp47]
                  have HNP := hide (show p ≠ 47 from fun e => hp47 ((toNat_eq (n := 47) (by decide)).2 e))
                  clear hp47 hk0
                  go_wp2_with (go_at_call 35; refine (rdigit_any _ _).mono ?_; rintro e w' ⟨rfl, rfl⟩)
                  go_round
                  case rel => exact ⟨k + 1, by omega, by go_num, step_all hlt HA.out (by rw [HC.out]; exact HPC.out), adj_on hlt HJ.out (.inr (.inr ⟨p, HPX.out, HNP.out⟩))⟩
                  case measure => simp [intOf]; omega
            · have HN47 := hide (show c ≠ 47 from fun e => h47 ((toNat_eq (n := 47) (by decide)).2 e))
              have q1 : ((c.toNat : Int) == 47) = false := by simp [h47]
              have q2 : ((c.toNat : Int) != 47) = true := by simp [h47]
              cases hps : Wd.paS c
              · obtain ⟨q6, q5, q3, q4, _⟩ := paS_not hps
                have HB := hide (path_bad1 hlt (by rw [HC.out]; exact hps))
                have q3' : ((c.toNat : Int) != 45) = true := by simp [q3]
                have q4' : ((c.toNat : Int) != 46) = true := by simp [q4]
                have hsmall : (97 ≤ (c.toNat : Int) ∧ decide ((c.toNat : Int) ≤ 122) = false) ∨ (decide (97 ≤ (c.toNat : Int)) = false) := by simp only [decide_eq_false_iff_not]; omega
                clear h47 hps q3 q4 q5
                rcases hsmall with ⟨g5, g6⟩ | g5
                all_goals
                  go_wp2_with (go_at_call 35; refine (rdigit_any _ _).mono ?_; rintro e w' ⟨rfl, rfl⟩)
                  go_ret
                  exact ⟨ret_bool HB.out.symm, rfl⟩
              · have HPC := hide hps
                have hclass : Ver.isD c = true ∨ (Ver.isD c = false ∧ 97 ≤ (c.toNat : Int) ∧ (c.toNat : Int) ≤ 122) ∨ (Ver.isD c = false ∧ decide (97 ≤ (c.toNat : Int)) = false ∧ ((c.toNat : Int) != 45) = false) ∨ (Ver.isD c = false ∧ decide (97 ≤ (c.toNat : Int)) = false ∧ ((c.toNat : Int) != 45) = true ∧ ((c.toNat : Int) != 46) = false) := by
                  cases hd : Ver.isD c
                  · right
                    simp only [Wd.paS, Wd.nmS, Wd.low, Bool.or_eq_true, Bool.and_eq_true, decide_eq_true_eq, beq_iff_eq] at hps
                    simp only [Ver.isD, Bool.and_eq_false_iff, decide_eq_false_iff_not] at hd
                    simp only [decide_eq_false_iff_not, bne_eq_false_iff_eq, bne_iff_ne, true_and]
                    omega
                  · exact .inl rfl
                have hk2 : (0 : Int) < k ∨ ¬ (0 : Int) < k := by omega
                clear h47 hps
                rcases hclass with q6 | ⟨q6, q5, q7⟩ | ⟨q6, q5, q3⟩ | ⟨q6, q5, q3, q4⟩
                all_goals
                  rcases hk2 with hki | hki
                all_goals
                  go_wp2_with (go_at_call 35; refine (rdigit_any _ _).mono ?_; rintro e w' ⟨rfl, rfl⟩)
                  all_goals
                    go_round
                    case rel => exact ⟨k + 1, by omega, by go_num, step_all hlt HA.out (by rw [HC.out]; exact HPC.out), adj_on hlt HJ.out (.inr (.inl (by rw [HC.out]; exact HN47.out)))⟩
                    case measure => simp [intOf]; omega
          · have he := all_end hlt HA.out
            have HE := hide (show Wd.isPath x = true by
              have := HJ.out
              rw [List.take_of_length_le (by omega)] at this
              rw [HP.out, he, this]; rfl)
            clear he
            go_wp2_with fail
            go_ret
            exact ⟨ret_bool HE.out.symm, rfl⟩
    · have b1 : ((c0.toNat : Int) != 47) = true := by simp [hf]
      have HB := hide (show Wd.isPath x = false by
        have : Wd.headIs (fun c => (c.toNat : Int) == 47) x = false := by rw [HH.out]; simp [hf]
        rw [Wd.isPath, this]; simp)
      clear hf hlen
      go_enter Tryz.func46, Tryz.ntmps46
      go_wp2_with fail
      go_ret
      exact ⟨ret_bool HB.out.symm, rfl⟩
  · have HB := hide (show Wd.isPath x = false by
      have : Wd.lenIn x 2 24 = false := by rw [Wd.lenIn, Bool.and_eq_false_iff]; simp; omega
      rw [Wd.isPath, this]; simp)
    have hl' : (x.length : Int) < 2 ∨ (¬ (x.length : Int) < 2 ∧ (24 : Int) < x.length) := by omega
    clear hl
    rcases hl' with g1 | ⟨g1, g2⟩
    all_goals
      go_enter Tryz.func46, Tryz.ntmps46
      go_wp2_with fail
      go_ret
      exact ⟨ret_bool HB.out.symm, rfl⟩
end Go.Proofs.YtgdmgmklncmanaaGreatDoor
