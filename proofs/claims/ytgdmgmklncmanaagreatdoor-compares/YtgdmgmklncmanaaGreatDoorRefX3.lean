/- The walks over the document's own answer on beginnings and sizes. -/
import Derived.Test.YtgdmgmklncmanaaGreatDoorRefX2
namespace Go.Proofs.YtgdmgmklncmanaaGreatDoor
open Go.RowKit

theorem under_take (x : List UInt8) : Wd.under x = (decide (5 ≤ (x.length : Int)) && (x.take 5 == [47, 118, 97, 114, 47])) := by
  rw [Wd.under, Lib.hasPrefix, Bool.eq_iff_iff]
  rw [List.isPrefixOf_iff_prefix, List.prefix_iff_eq_take]
  simp only [Bool.and_eq_true, decide_eq_true_eq, beq_iff_eq]
  constructor
  · intro h
    have h' : x.take 5 = [47, 118, 97, 114, 47] := h.symm
    refine ⟨?_, h'⟩
    have := congrArg List.length h'
    rw [List.length_take] at this; simp at this; omega
  · intro h; exact h.2.symm

set_option maxHeartbeats 400000 in
theorem rbegins_any (x : List UInt8) (w : World) :
    Calls Tryz.prog 48 #[.string ⟨x.toArray⟩, .string ⟨#[47, 118, 97, 114, 47]⟩] w fun e w' => e = .returned (.bool (Wd.under x)) ∧ w' = w := by
  have e5 : (⟨x.toArray⟩ : ByteArray).extract 0 5 = ⟨(x.take 5).toArray⟩ := list_ext_take x 5
  by_cases h : (5 : Int) ≤ x.length
  · have HU := hide (under_take x)
    go_enter Tryz.func48, Tryz.ntmps48
    go_wp2
    go_ret
    exact ⟨ret_bool (by rw [HU.out]; simp [h]), rfl⟩
  · have HU := hide (show Wd.under x = false by rw [under_take]; simp; omega)
    go_enter Tryz.func48, Tryz.ntmps48
    go_wp2
    go_ret
    exact ⟨ret_bool HU.out.symm, rfl⟩

/-- What a word says as a size; -1: it is none. -/
def sz (x : List UInt8) : Int := if Wd.lenIn x 1 4 = true ∧ ¬ (Wd.headIs (fun c => (c.toNat : Int) == 48) x = true ∧ 1 < x.length) ∧ x.all Ver.isD = true then Ver.val x else -1
theorem ep_le' {x : List UInt8} {m : Nat} (hm : m ≤ 3) (h : (x.take m).all Ver.isD = true) : 0 ≤ Ver.val (x.take m) ∧ Ver.val (x.take m) ≤ 999 := by
  have hb := Ver.vr_bd (x.take m) (List.all_eq_true.1 h)
  rw [← Ver.val_vr] at hb
  have hp := Ver.pow_mono' (a := (x.take m).length) (b := 3) (by rw [List.length_take]; omega)
  have : (10 : Int) ^ 3 = 1000 := by decide
  omega

set_option maxHeartbeats 1000000 in
theorem rsize_any (x : List UInt8) (hx : x.length ≤ 2000) (w : World) :
    Calls Tryz.prog 47 #[.string ⟨x.toArray⟩] w fun e w' => e = .returned (.int .i64 (sz x)) ∧ w' = w := by
  by_cases hl : 1 ≤ x.length ∧ x.length ≤ 4
  · obtain ⟨h1, h4⟩ := hl
    have g1 : ¬ (x.length : Int) < 1 := by omega
    have g2 : ¬ (4 : Int) < x.length := by omega
    have hlen : Wd.lenIn x 1 4 = true := by simp [Wd.lenIn]; omega
    obtain ⟨c0, hc0, hhead⟩ : ∃ c0, (⟨x.toArray⟩ : ByteArray)[0]'(by show 0 < x.length; omega) = c0 ∧ ∀ f, Wd.headIs f x = f c0 := by
      cases x with
      | nil => simp at h1
      | cons c l => exact ⟨c, rfl, fun _ => rfl⟩
    have HH := hide hhead; clear hhead
    by_cases hz : (c0.toNat : Int) = 48 ∧ 1 < x.length
    · obtain ⟨z1, z2⟩ := hz
      have b1 : ((c0.toNat : Int) == 48) = true := by simp [z1]
      have b2 : (1 : Int) < x.length := by omega
      have HB := hide (show sz x = -1 by rw [sz, HH.out]; simp [z1, z2])
      clear z1 hlen
      go_enter Tryz.func47, Tryz.ntmps47
      go_wp2_with fail
      go_ret
      exact ⟨ret_int HB.out.symm, rfl⟩
    · have HS := hide (show sz x = if x.all Ver.isD = true then Ver.val x else -1 by
        have : ¬ (Wd.headIs (fun c => (c.toNat : Int) == 48) x = true ∧ 1 < x.length) := by rw [HH.out]; simpa using hz
        rw [sz]; simp only [hlen, this, not_false_eq_true, true_and])
      have hcase : (((c0.toNat : Int) == 48) = true ∧ ¬ (1 : Int) < x.length) ∨ ((c0.toNat : Int) == 48) = false := by
        by_cases h : (c0.toNat : Int) = 48
        · left; exact ⟨by simp [h], by omega⟩
        · right; simp [h]
      clear hz hlen
      rcases hcase with ⟨b1, b2⟩ | b1
      all_goals
        go_enter Tryz.func47, Tryz.ntmps47
        go_wp2_with fail
        clear hc0 b1
        go_loop [3, 4] (fun n i => ∃ k : Nat, k ≤ x.length ∧ i = .int .i64 k ∧ n = .int .i64 (Ver.val (x.take k)) ∧ (x.take k).all Ver.isD = true) (fun _ i => x.length - (intOf i).toNat)
        case atStart => exact ⟨0, Nat.zero_le _, rfl, rfl, rfl⟩
        case round =>
          obtain ⟨k, hk, rfl, rfl, ha⟩ := hrel
          have HA := hide ha; clear ha
          by_cases hlt : k < x.length
          · obtain ⟨c, hc, hcx⟩ : ∃ c, (⟨x.toArray⟩ : ByteArray)[k]'hlt = c ∧ x[k] = c := ⟨_, rfl, rfl⟩
            have HC := hide hcx; clear hcx
            obtain ⟨v1, v2⟩ := ep_le' (by omega) HA.out
            have hn := Ver.val_take hlt
            rw [HC.out] at hn
            have HN := hide hn; clear hn
            obtain ⟨V, hV⟩ : ∃ V, Ver.val (x.take k) = V := ⟨_, rfl⟩
            rw [hV] at v1 v2 HN ⊢
            clear hV
            cases hd : Ver.isD c
            · have HB := hide (show sz x = -1 by
                have := not_all hlt (f := Ver.isD) (by rw [HC.out]; exact hd)
                rw [Ver.allL] at this
                rw [HS.out, this]; rfl)
              go_wp2_with (go_at_call 35; refine (rdigit_any _ _).mono ?_; rintro e w' ⟨rfl, rfl⟩)
              go_ret
              exact ⟨ret_int HB.out.symm, rfl⟩
            · obtain ⟨d1, d2⟩ := Ver.isD_bd hd
              go_wp2_with (go_at_call 35; refine (rdigit_any _ _).mono ?_; rintro e w' ⟨rfl, rfl⟩)
              go_round
              case rel => exact ⟨k + 1, by omega, by go_num, by rw [HN.out], step_all hlt HA.out (by rw [HC.out]; exact hd)⟩
              case measure => simp [intOf]; omega
          · have hall := all_end hlt HA.out
            rw [Ver.allL] at hall
            have hk' : x.take k = x := List.take_of_length_le (by omega)
            have HB := hide (show sz x = Ver.val x by rw [HS.out, hall]; rfl)
            rw [hk']
            clear hk' hall
            go_wp2_with fail
            go_ret
            exact ⟨ret_int HB.out.symm, rfl⟩
  · have HB := hide (show sz x = -1 by
      have : Wd.lenIn x 1 4 = false := by simp only [Wd.lenIn, Bool.and_eq_false_iff, decide_eq_false_iff_not]; omega
      rw [sz, this]; simp)
    have hl' : (x.length : Int) < 1 ∨ (¬ (x.length : Int) < 1 ∧ (4 : Int) < x.length) := by omega
    clear hl
    rcases hl' with g1 | ⟨g1, g2⟩
    all_goals
      go_enter Tryz.func47, Tryz.ntmps47
      go_wp2_with fail
      go_ret
      exact ⟨ret_int HB.out.symm, rfl⟩
end Go.Proofs.YtgdmgmklncmanaaGreatDoor
