/- The walks over the document's own answer on versions: its leaves. -/
import Derived.Test.YtgdmgmklncmanaaGreatDoorVerW9
namespace Go.Proofs.YtgdmgmklncmanaaGreatDoor
open Go.RowKit

set_option maxHeartbeats 400000 in
theorem rdigit_any (c : UInt8) (w : World) :
    Calls Tryz.prog 35 #[.int .u8 c.toNat] w fun e w' => e = .returned (.bool (Ver.isD c)) ∧ w' = w := by
  go_enter Tryz.func35, Tryz.ntmps35
  go_wp2
  all_goals (go_ret; exact ⟨ret_bool (by simp [Ver.isD]; try omega), rfl⟩)
set_option maxHeartbeats 400000 in
theorem rletter_any (c : UInt8) (w : World) :
    Calls Tryz.prog 65 #[.int .u8 c.toNat] w fun e w' => e = .returned (.bool (Ver.isL c)) ∧ w' = w := by
  go_enter Tryz.func65, Tryz.ntmps65
  go_wp2
  all_goals (go_ret; exact ⟨ret_bool (by simp [Ver.isL, *]; try omega), rfl⟩)
set_option maxHeartbeats 400000 in
theorem rless_any (x y : Int) (w : World) :
    Calls Tryz.prog 16 #[.int .i64 x, .int .i64 y] w fun e w' => e = .returned (.int .i64 (Ver.cmpI x y)) ∧ w' = w := by
  by_cases h1 : x < y
  · have e1 : Ver.cmpI x y = -1 := by simp [Ver.cmpI, h1]
    rw [e1]
    go_enter Tryz.func16, Tryz.ntmps16
    go_wp2
    go_ret
    exact ⟨rfl, rfl⟩
  · by_cases h2 : y < x
    · have e1 : Ver.cmpI x y = 1 := by simp [Ver.cmpI, h1, h2]
      rw [e1]
      go_enter Tryz.func16, Tryz.ntmps16
      go_wp2
      go_ret
      exact ⟨rfl, rfl⟩
    · have e1 : Ver.cmpI x y = 0 := by simp [Ver.cmpI, h1, h2]
      rw [e1]
      go_enter Tryz.func16, Tryz.ntmps16
      go_wp2
      go_ret
      exact ⟨rfl, rfl⟩

/-- The rank of a sign, 0 standing for the row's end. -/
def rkn (n : Int) : Int := if n = 126 then -1 else if n = 0 then 0 else if (97 ≤ n ∧ n ≤ 122) ∨ (65 ≤ n ∧ n ≤ 90) then n else 256 + n
theorem rkn_rkc {c : UInt8} (h : (c.toNat : Int) ≠ 0) : rkn c.toNat = Ver.rkc c := by
  unfold rkn Ver.rkc Ver.isL
  by_cases h1 : (c.toNat : Int) = 126
  · simp [h1]
  · simp only [h1, h, if_false]
    by_cases h2 : (97 ≤ (c.toNat : Int) ∧ (c.toNat : Int) ≤ 122) ∨ (65 ≤ (c.toNat : Int) ∧ (c.toNat : Int) ≤ 90)
    · rw [if_pos h2, if_pos (by simpa using h2)]
    · rw [if_neg h2, if_neg (by simpa using h2)]
theorem rkn_1 {c : UInt8} (h : ((c.toNat : Int) == 126) = true) : -1 = rkn c.toNat := by simp at h; simp [rkn, h]
theorem rkn_2 {c : UInt8} (_ : ((c.toNat : Int) == 126) = false) (h2 : ((c.toNat : Int) == 0) = true) : 0 = rkn c.toNat := by
  simp only [beq_iff_eq] at h2; rw [h2]; rfl
theorem rkn_3 {c : UInt8} (h : ((c.toNat : Int) == 126) = false) (h2 : ((c.toNat : Int) == 0) = false) (h3 : Ver.isL c = true) : (c.toNat : Int) = rkn c.toNat := by
  simp only [beq_eq_false_iff_ne] at h h2
  simp only [Ver.isL, Bool.or_eq_true, Bool.and_eq_true, decide_eq_true_eq] at h3
  simp only [rkn, h, h2, h3, if_true, if_false]
theorem rkn_4 {c : UInt8} (h : ((c.toNat : Int) == 126) = false) (h2 : ((c.toNat : Int) == 0) = false) (h3 : Ver.isL c = false) : 256 + (c.toNat : Int) = rkn c.toNat := by
  simp only [beq_eq_false_iff_ne] at h h2
  have h3' : ¬ ((97 ≤ (c.toNat : Int) ∧ (c.toNat : Int) ≤ 122) ∨ (65 ≤ (c.toNat : Int) ∧ (c.toNat : Int) ≤ 90)) := by
    intro hh; have : Ver.isL c = true := by simp only [Ver.isL, Bool.or_eq_true, Bool.and_eq_true, decide_eq_true_eq]; exact hh
    rw [this] at h3; cases h3
  simp only [rkn, h, h2, h3', if_false]

set_option maxHeartbeats 400000 in
theorem rrank_any (c : UInt8) (w : World) :
    Calls Tryz.prog 38 #[.int .u8 c.toNat] w fun e w' => e = .returned (.int .i64 (rkn c.toNat)) ∧ w' = w := by
  have hb : c.toNat < 256 := c.toNat_lt
  go_enter Tryz.func38, Tryz.ntmps38
  go_wp2_with (go_at_call 65; refine (rletter_any c _).mono ?_; rintro e w' ⟨rfl, rfl⟩)
  all_goals (go_ret; exact ⟨ret_int (by first | exact rkn_1 ‹_› | exact rkn_2 ‹_› ‹_› | exact rkn_3 ‹_› ‹_› ‹_› | exact rkn_4 ‹_› ‹_› ‹_›), rfl⟩)

/-- A text's sign, 0 behind its end. -/
def atn (x : List UInt8) (i : Nat) : UInt8 := x.getD i 0
set_option maxHeartbeats 400000 in
theorem rat_any (x : List UInt8) (i : Nat) (w : World) :
    Calls Tryz.prog 39 #[.string ⟨x.toArray⟩, .int .i64 i] w fun e w' => e = .returned (.int .u8 (atn x i).toNat) ∧ w' = w := by
  by_cases h : i < x.length
  · have e1 : atn x i = x[i] := by simp [atn, List.getD, h]
    rw [e1]
    go_enter Tryz.func39, Tryz.ntmps39
    go_wp2
    go_ret
    exact ⟨rfl, rfl⟩
  · have e1 : atn x i = 0 := by simp [atn, List.getD, h]
    rw [e1]
    go_enter Tryz.func39, Tryz.ntmps39
    go_wp2
    go_ret
    exact ⟨rfl, rfl⟩
end Go.Proofs.YtgdmgmklncmanaaGreatDoor
