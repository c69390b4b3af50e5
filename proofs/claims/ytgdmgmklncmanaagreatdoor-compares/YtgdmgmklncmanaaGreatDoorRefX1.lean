/- The walks over the document's own answer on names, words and paths. -/
import Derived.Test.YtgdmgmklncmanaaGreatDoorRefW1
import Derived.Test.YtgdmgmklncmanaaGreatDoorWordsW1
namespace Go.Proofs.YtgdmgmklncmanaaGreatDoor
open Go.RowKit

theorem step_all {f : UInt8 → Bool} {x : List UInt8} {k : Nat} (h : k < x.length) (ha : (x.take k).all f = true) (hf : f x[k] = true) : (x.take (k + 1)).all f = true := by
  rw [List.take_succ_eq_append_getElem h, List.all_append, ha]; simpa using hf
theorem not_all {f : UInt8 → Bool} {x : List UInt8} {k : Nat} (h : k < x.length) (hf : f x[k] = false) : Ver.allL f x = false := by
  rw [Ver.allL, List.all_eq_false]; exact ⟨x[k], List.getElem_mem h, by simp [hf]⟩
theorem all_end {f : UInt8 → Bool} {x : List UInt8} {k : Nat} (h : ¬ k < x.length) (ha : (x.take k).all f = true) : Ver.allL f x = true := by
  rwa [List.take_of_length_le (by omega)] at ha

set_option maxHeartbeats 400000 in
theorem risWord_any (x : List UInt8) (hx : x.length ≤ 2000) (w : World) :
    Calls Tryz.prog 72 #[.string ⟨x.toArray⟩] w fun e w' => e = .returned (.bool (Wd.isWord x)) ∧ w' = w := by
  go_enter Tryz.func72, Tryz.ntmps72
  go_wp2_with fail
  go_loop [3] (fun i => ∃ k : Nat, k ≤ x.length ∧ i = .int .i64 k ∧ (x.take k).all Wd.woS = true) (fun i => x.length - (intOf i).toNat)
  case atStart => exact ⟨0, Nat.zero_le _, rfl, rfl⟩
  case round =>
    obtain ⟨k, hk, rfl, ha⟩ := hrel
    have HA := hide ha; clear ha
    by_cases hlt : k < x.length
    · obtain ⟨c, hc, hcx⟩ : ∃ c, (⟨x.toArray⟩ : ByteArray)[k]'hlt = c ∧ x[k] = c := ⟨_, rfl, rfl⟩
      have HC := hide hcx; clear hcx
      by_cases h1 : (c.toNat : Int) < 33
      · have hb : Wd.woS c = false := by simp [Wd.woS]; omega
        have HB := hide (show Wd.isWord x = false by rw [Wd.isWord, not_all hlt (f := Wd.woS) (by rw [HC.out]; exact hb)]; simp)
        clear hb
        go_wp2_with fail
        go_ret
        exact ⟨ret_bool HB.out.symm, rfl⟩
      · by_cases h2 : (126 : Int) < c.toNat
        · have hb : Wd.woS c = false := by simp [Wd.woS]; omega
          have HB := hide (show Wd.isWord x = false by rw [Wd.isWord, not_all hlt (f := Wd.woS) (by rw [HC.out]; exact hb)]; simp)
          clear hb
          go_wp2_with fail
          go_ret
          exact ⟨ret_bool HB.out.symm, rfl⟩
        · have hb : Wd.woS c = true := by simp [Wd.woS]; omega
          have HB := hide hb; clear hb
          go_wp2_with fail
          go_round
          case rel => exact ⟨k + 1, by omega, by go_num, step_all hlt HA.out (by rw [HC.out]; exact HB.out)⟩
          case measure => simp [intOf]; omega
    · have he := all_end hlt HA.out
      have HE := hide (show Wd.isWord x = Wd.lenIn x 1 16 by simp [Wd.isWord, he])
      clear he
      go_wp2_with fail
      all_goals (go_ret; exact ⟨ret_bool (by rw [HE.out, Wd.lenIn, Bool.eq_iff_iff]; simp; try omega), rfl⟩)

theorem name_head {x : List UInt8} {k : Nat} {c : UInt8} (h : k < x.length) (hh : 0 < k → Wd.headIs Wd.low x = true) (hc : x[k] = c) (hl : Wd.low c = true) : Wd.headIs Wd.low x = true := by
  by_cases h0 : 0 < k
  · exact hh h0
  · have : k = 0 := by omega
    subst this
    cases x with
    | nil => simp at h
    | cons d l => simp at hc; subst hc; exact hl
theorem name_bad {x : List UInt8} {c : UInt8} (h : 0 < x.length) (hc : x[0] = c) (hl : Wd.low c = false) : Wd.headIs Wd.low x = false := by
  cases x with
  | nil => simp at h
  | cons d l => simp at hc; subst hc; exact hl
theorem name_end {x : List UInt8} {k : Nat} (he : Ver.allL Wd.nmS x = true) (hk : k ≤ x.length) (hlt : ¬ k < x.length) (hh : 0 < k → Wd.headIs Wd.low x = true) : Wd.isName x = Wd.lenIn x 1 12 := by
  by_cases h0 : 0 < x.length
  · simp [Wd.isName, he, hh (by omega)]
  · have : Wd.lenIn x 1 12 = false := by simp [Wd.lenIn]; omega
    simp [Wd.isName, this]

set_option maxHeartbeats 1000000 in
theorem rIsName_any (x : List UInt8) (hx : x.length ≤ 2000) (w : World) :
    Calls Tryz.prog 45 #[.string ⟨x.toArray⟩] w fun e w' => e = .returned (.bool (Wd.isName x)) ∧ w' = w := by
  go_enter Tryz.func45, Tryz.ntmps45
  go_wp2_with fail
  go_loop [3] (fun i => ∃ k : Nat, k ≤ x.length ∧ i = .int .i64 k ∧ (x.take k).all Wd.nmS = true ∧ (0 < k → Wd.headIs Wd.low x = true)) (fun i => x.length - (intOf i).toNat)
  case atStart => exact ⟨0, Nat.zero_le _, rfl, rfl, fun h => absurd h (by omega)⟩
  case round =>
    obtain ⟨k, hk, rfl, ha, hh⟩ := hrel
    have HA := hide ha; have HH := hide hh; clear ha hh
    by_cases hlt : k < x.length
    · obtain ⟨c, hc, hcx⟩ : ∃ c, (⟨x.toArray⟩ : ByteArray)[k]'hlt = c ∧ x[k] = c := ⟨_, rfl, rfl⟩
      have HC := hide hcx; clear hcx
      by_cases hl : 97 ≤ (c.toNat : Int) ∧ (c.toNat : Int) ≤ 122
      · obtain ⟨g1, g2⟩ := hl
        have hlow : Wd.low c = true := by simp [Wd.low]; omega
        have hb : Wd.nmS c = true := by simp [Wd.nmS, hlow]
        have HB := hide hb; have HL := hide hlow; clear hb hlow
        go_wp2_with (go_at_call 35; refine (rdigit_any _ _).mono ?_; rintro e w' ⟨rfl, rfl⟩)
        go_round
        case rel => exact ⟨k + 1, by omega, by go_num, step_all hlt HA.out (by rw [HC.out]; exact HB.out), fun _ => name_head hlt HH.out HC.out HL.out⟩
        case measure => simp [intOf]; omega
      · have hlow : Wd.low c = false := by simp [Wd.low]; omega
        have hsmall : (97 ≤ (c.toNat : Int) ∧ decide ((c.toNat : Int) ≤ 122) = false) ∨ (decide (97 ≤ (c.toNat : Int)) = false) := by simp only [decide_eq_false_iff_not]; omega
        clear hl
        by_cases hk0 : k = 0
        · subst hk0
          have HB := hide (show Wd.isName x = false by rw [Wd.isName, name_bad hlt HC.out hlow]; simp)
          clear hlow
          rcases hsmall with ⟨g1, g2⟩ | g1
          all_goals
            go_wp2_with (go_at_call 35; refine (rdigit_any _ _).mono ?_; rintro e w' ⟨rfl, rfl⟩)
            go_ret
            exact ⟨ret_bool HB.out.symm, rfl⟩
        · have hk1 : ((k : Int) == 0) = false := by simp; omega
          cases hd : Ver.isD c
          · by_cases h45 : (c.toNat : Int) = 45
            · have hb : Wd.nmS c = true := by simp [Wd.nmS, h45]
              have HB := hide hb; clear hb
              have hm : ((c.toNat : Int) != 45) = false := by simp [h45]
              clear h45
              rcases hsmall with ⟨g1, g2⟩ | g1
              all_goals
                go_wp2_with (go_at_call 35; refine (rdigit_any _ _).mono ?_; rintro e w' ⟨rfl, rfl⟩)
                go_round
                case rel => exact ⟨k + 1, by omega, by go_num, step_all hlt HA.out (by rw [HC.out]; exact HB.out), fun _ => HH.out (by omega)⟩
                case measure => simp [intOf]; omega
            · have hb : Wd.nmS c = false := by
                have : (decide (48 ≤ (c.toNat : Int)) && decide ((c.toNat : Int) ≤ 57)) = false := hd
                simp only [Wd.nmS, hlow, this, Bool.false_or]; simpa using h45
              have HB := hide (show Wd.isName x = false by rw [Wd.isName, not_all hlt (f := Wd.nmS) (by rw [HC.out]; exact hb)]; simp)
              clear hb hlow
              have hm : ((c.toNat : Int) != 45) = true := by simp [h45]
              clear h45
              rcases hsmall with ⟨g1, g2⟩ | g1
              all_goals
                go_wp2_with (go_at_call 35; refine (rdigit_any _ _).mono ?_; rintro e w' ⟨rfl, rfl⟩)
                go_ret
                exact ⟨ret_bool HB.out.symm, rfl⟩
          · have hb : Wd.nmS c = true := by
              have : (decide (48 ≤ (c.toNat : Int)) && decide ((c.toNat : Int) ≤ 57)) = true := hd
              simp only [Wd.nmS, this]; simp
            have HB := hide hb; clear hb
            rcases hsmall with ⟨g1, g2⟩ | g1
            all_goals
              go_wp2_with (go_at_call 35; refine (rdigit_any _ _).mono ?_; rintro e w' ⟨rfl, rfl⟩)
              go_round
              case rel => exact ⟨k + 1, by omega, by go_num, step_all hlt HA.out (by rw [HC.out]; exact HB.out), fun _ => HH.out (by omega)⟩
              case measure => simp [intOf]; omega
    · have he := all_end hlt HA.out
      have HE := hide (name_end he hk hlt HH.out)
      clear he
      go_wp2_with fail
      all_goals (go_ret; exact ⟨ret_bool (by rw [HE.out, Wd.lenIn, Bool.eq_iff_iff]; simp; try omega), rfl⟩)
end Go.Proofs.YtgdmgmklncmanaaGreatDoor
