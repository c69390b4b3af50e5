/- The walks over compareSigns, compareNumbers, cmp.Or, cmp.Compare. -/
import Derived.Test.YtenahjbofhkinaaDoorVerW2
import Derived.Test.YtenahjbofhkinaaDoorShelf
import Derived.Deep.RegionWith
namespace Go.Proofs.YtenahjbofhkinaaDoor
open Go.RowKit

theorem cmpI_any (x y : Int) (w : World) : Calls Tryd.prog 24 #[.int .i64 x, .int .i64 y] w fun e w' => e = .returned (.int .i64 (Ver.cmpI x y)) ∧ w' = w :=
  Tryd.cmp_Compare_int x y w

theorem signs_on {a b : List UInt8} {k : Nat} (hk : k < 25) (h : Ver.cmpI (Ver.rk (a.drop k)) (Ver.rk (b.drop k)) = 0) :
    Ver.signs (25 - k) (a.drop k) (b.drop k) = Ver.signs (25 - (k + 1)) (a.drop (k + 1)) (b.drop (k + 1)) := by
  rw [show 25 - k = (25 - (k + 1)) + 1 from by omega, Ver.signs, h]; simp [Ver.or3]
theorem signs_off {a b : List UInt8} {k : Nat} (hk : k < 25) (h : Ver.cmpI (Ver.rk (a.drop k)) (Ver.rk (b.drop k)) ≠ 0) :
    Ver.signs (25 - k) (a.drop k) (b.drop k) = Ver.cmpI (Ver.rk (a.drop k)) (Ver.rk (b.drop k)) := by
  rw [show 25 - k = (25 - (k + 1)) + 1 from by omega, Ver.signs]; simp [Ver.or3, h]
theorem signs_end {a b : ByteArray} {k : Nat} (ha : a.size ≤ k) (hb : b.size ≤ k) : Ver.signs (25 - k) (a.data.toList.drop k) (b.data.toList.drop k) = 0 := by
  rw [List.drop_of_length_le (by simpa using ha), List.drop_of_length_le (by simpa using hb), Ver.signs_nil]

set_option maxHeartbeats 400000 in
theorem signs_any (a b : ByteArray) (ha : a.size ≤ 24) (hb : b.size ≤ 24) (w : World) :
    Calls Tryd.prog 28 #[.string a, .string b] w fun e w' => e = .returned (.int .i64 (Ver.signs 25 a.data.toList b.data.toList)) ∧ w' = w := by
  go_enter Tryd.func28, Tryd.ntmps28
  go_wp2_with fail
  go_loop [12] (fun i => ∃ k : Nat, k ≤ 24 ∧ i = .int .i64 k ∧ Ver.signs 25 a.data.toList b.data.toList = Ver.signs (25 - k) (a.data.toList.drop k) (b.data.toList.drop k)) (fun i => 25 - (intOf i).toNat)
  case atStart => exact ⟨0, Nat.zero_le _, rfl, rfl⟩
  case round =>
    obtain ⟨k, hk, rfl, hs⟩ := hrel
    have HS := hide hs; clear hs
    by_cases hlt : (k : Int) < max (a.size : Int) (b.size : Int)
    · have HL := hide hlt
      by_cases hc : Ver.cmpI (Ver.rk (a.data.toList.drop k)) (Ver.rk (b.data.toList.drop k)) = 0
      · have HC := hide hc
        have hc' : (Ver.cmpI (Ver.rk (a.data.toList.drop k)) (Ver.rk (b.data.toList.drop k)) != 0) = false := by simp [hc]
        clear hc
        go_wp2_with (first
          | (go_at_call_of 37 (Value.string a); refine (rank_any a k _).mono ?_; rintro e w' ⟨rfl, rfl⟩)
          | (go_at_call_of 37 (Value.string b); refine (rank_any b k _).mono ?_; rintro e w' ⟨rfl, rfl⟩)
          | (go_at_call 24; refine (cmpI_any _ _ _).mono ?_; rintro e w' ⟨rfl, rfl⟩))
        go_round
        case rel => exact ⟨k + 1, by omega, by go_num, by rw [HS.out, signs_on (by omega) HC.out]⟩
        case measure => simp [intOf]; omega
      · have HC := hide hc
        have hc' : (Ver.cmpI (Ver.rk (a.data.toList.drop k)) (Ver.rk (b.data.toList.drop k)) != 0) = true := by simp [hc]
        clear hc
        go_wp2_with (first
          | (go_at_call_of 37 (Value.string a); refine (rank_any a k _).mono ?_; rintro e w' ⟨rfl, rfl⟩)
          | (go_at_call_of 37 (Value.string b); refine (rank_any b k _).mono ?_; rintro e w' ⟨rfl, rfl⟩)
          | (go_at_call 24; refine (cmpI_any _ _ _).mono ?_; rintro e w' ⟨rfl, rfl⟩))
        go_ret
        exact ⟨ret_int (by rw [HS.out, signs_off (by omega) HC.out]), rfl⟩
    · go_wp2_with fail
      go_ret
      exact ⟨ret_int (by rw [HS.out, signs_end (by omega) (by omega)]), rfl⟩
end Go.Proofs.YtenahjbofhkinaaDoor
