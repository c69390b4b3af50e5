/- The walks over the versions' leaves: which signs may stand where; a sign's rank. -/
import Derived.Test.YtgdmgmklncmanaaGreatDoorProg
import Derived.Test.YtgdmgmklncmanaaGreatDoorVerMath
import Derived.WalkKit
import Derived.WalkSpells
import Derived.WalkLawsBesides
namespace Go.Proofs.YtgdmgmklncmanaaGreatDoor
open Go.RowKit

theorem hide {p : Prop} (h : p) : Hid p := h
theorem bytes_ext {a b : ByteArray} (h : a.data.toList = b.data.toList) : a = b := by
  cases a; cases b; simpa [← Array.toList_inj] using h
theorem ext_take (s : ByteArray) (k : Nat) : s.extract 0 k = ⟨(s.data.toList.take k).toArray⟩ := by
  apply bytes_ext; simp [ByteArray.data_extract, Array.toList_extract, List.extract]
theorem ext_drop (s : ByteArray) (k : Nat) : s.extract k s.size = ⟨(s.data.toList.drop k).toArray⟩ := by
  apply bytes_ext; simp [ByteArray.data_extract, Array.toList_extract, List.extract]
  exact List.take_of_length_le (by simp)
theorem ret_str {a b : ByteArray} (h : a = b) : Ending.returned (.string a) = .returned (.string b) := by rw [h]
theorem ret_str2 {a b c d : ByteArray} (h : a = b) (k : c = d) : Ending.returned (.tuple #[.string a, .string c]) = .returned (.tuple #[.string b, .string d]) := by rw [h, k]
theorem ret_bool {a b : Bool} (h : a = b) : Ending.returned (.bool a) = .returned (.bool b) := by rw [h]
theorem ret_int {k : IntKind} {a b : Int} (h : a = b) : Ending.returned (.int k a) = .returned (.int k b) := by rw [h]

set_option maxHeartbeats 400000 in
theorem isDigit_any (c : UInt8) (w : World) :
    Calls Tryz.prog 56 #[.int .u8 c.toNat] w fun e w' => e = .returned (.bool (Ver.isD c)) ∧ w' = w := by
  go_enter Tryz.func56, Tryz.ntmps56
  go_wp2
  all_goals (go_ret; exact ⟨ret_bool (by simp [Ver.isD]; try omega), rfl⟩)

set_option maxHeartbeats 400000 in
theorem isNoDigit_any (c : UInt8) (w : World) :
    Calls Tryz.prog 63 #[.int .u8 c.toNat] w fun e w' => e = .returned (.bool (Ver.notD c)) ∧ w' = w := by
  go_enter Tryz.func63, Tryz.ntmps63
  go_wp2_with (go_at_call 56; refine (isDigit_any c _).mono ?_; rintro e w' ⟨rfl, rfl⟩)
  go_ret
  exact ⟨ret_bool (by simp [Ver.notD]), rfl⟩

set_option maxHeartbeats 400000 in
theorem isLetter_any (c : UInt8) (w : World) :
    Calls Tryz.prog 77 #[.int .u8 c.toNat] w fun e w' => e = .returned (.bool (Ver.isL c)) ∧ w' = w := by
  go_enter Tryz.func77, Tryz.ntmps77
  go_wp2
  all_goals (go_ret; exact ⟨ret_bool (by simp [Ver.isL, *]; try omega), rfl⟩)

set_option maxHeartbeats 400000 in
theorem isRevisionSign_any (c : UInt8) (w : World) :
    Calls Tryz.prog 58 #[.int .u8 c.toNat] w fun e w' => e = .returned (.bool (Ver.isR c)) ∧ w' = w := by
  go_enter Tryz.func58, Tryz.ntmps58
  go_wp2_with (first
    | (go_at_call 56; refine (isDigit_any c _).mono ?_; rintro e w' ⟨rfl, rfl⟩)
    | (go_at_call 77; refine (isLetter_any c _).mono ?_; rintro e w' ⟨rfl, rfl⟩))
  all_goals (go_ret; exact ⟨ret_bool (by simp [Ver.isR, *]; try omega), rfl⟩)

set_option maxHeartbeats 400000 in
theorem isMainSign_any (c : UInt8) (w : World) :
    Calls Tryz.prog 57 #[.int .u8 c.toNat] w fun e w' => e = .returned (.bool (Ver.isM c)) ∧ w' = w := by
  go_enter Tryz.func57, Tryz.ntmps57
  go_wp2_with (go_at_call 58; refine (isRevisionSign_any c _).mono ?_; rintro e w' ⟨rfl, rfl⟩)
  all_goals (go_ret; exact ⟨ret_bool (by simp [Ver.isM, *]), rfl⟩)

set_option maxHeartbeats 400000 in
theorem rank_end (s : ByteArray) (i : Nat) (hi : s.size ≤ i) (w : World) :
    Calls Tryz.prog 84 #[.string s, .int .i64 i] w fun e w' => e = .returned (.int .i64 0) ∧ w' = w := by
  go_enter Tryz.func84, Tryz.ntmps84
  go_wp2
  go_ret
  exact ⟨rfl, rfl⟩

set_option maxHeartbeats 400000 in
theorem rank_in (s : ByteArray) (i : Nat) (hi : i < s.size) (w : World) :
    Calls Tryz.prog 84 #[.string s, .int .i64 i] w fun e w' => e = .returned (.int .i64 (Ver.rkc s[i])) ∧ w' = w := by
  have hb : s[i].toNat < 256 := s[i].toNat_lt
  go_enter Tryz.func84, Tryz.ntmps84
  go_wp2_with (go_at_call 77; refine (isLetter_any s[i] _).mono ?_; rintro e w' ⟨rfl, rfl⟩)
  all_goals (go_ret; exact ⟨ret_int (by first | exact Ver.rkc_1 ‹_› | exact Ver.rkc_2 ‹_› ‹_› | exact Ver.rkc_3 ‹_› ‹_›), rfl⟩)

theorem rk_drop_in {s : ByteArray} {i : Nat} (hi : i < s.size) : Ver.rk (s.data.toList.drop i) = Ver.rkc s[i] := by
  rw [List.drop_eq_getElem_cons (by simpa using hi)]; rfl
theorem rk_drop_end {s : ByteArray} {i : Nat} (hi : s.size ≤ i) : Ver.rk (s.data.toList.drop i) = 0 := by
  rw [List.drop_of_length_le (by simpa using hi)]; rfl
theorem rank_any (s : ByteArray) (i : Nat) (w : World) :
    Calls Tryz.prog 84 #[.string s, .int .i64 i] w fun e w' => e = .returned (.int .i64 (Ver.rk (s.data.toList.drop i))) ∧ w' = w := by
  by_cases h : i < s.size
  · rw [rk_drop_in h]; exact rank_in s i h w
  · rw [rk_drop_end (by omega)]; exact rank_end s i (by omega) w

end Go.Proofs.YtgdmgmklncmanaaGreatDoor
