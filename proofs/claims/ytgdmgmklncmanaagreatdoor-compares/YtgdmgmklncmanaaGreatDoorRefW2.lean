/- The walks over the document's own answer on versions: rows, values, signs. -/
import Derived.Test.YtgdmgmklncmanaaGreatDoorRefW1
namespace Go.Proofs.YtgdmgmklncmanaaGreatDoor
open Go.RowKit

/-- How many signs from the front on are such. -/
def rowN (d : Bool) (x : List UInt8) : Nat := (Ver.pre (fun c => Ver.isD c == d) x).length
theorem rowN_at {d : Bool} {x : List UInt8} {k : Nat} (ha : (x.take k).all (fun c => Ver.isD c == d) = true) (hf : ∀ h : k < x.length, (Ver.isD x[k] == d) = false) (hk : k ≤ x.length) : rowN d x = k := by
  have := (take_row (f := fun c => Ver.isD c == d) ha hf).1
  simp only [rowN, Ver.pre, this, List.length_take]; omega
theorem rowN_le (d : Bool) (x : List UInt8) : rowN d x ≤ x.length := pre_le _ _
theorem row_take (d : Bool) (x : List UInt8) : x.take (rowN d x) = Ver.pre (fun c => Ver.isD c == d) x := by
  have h : Ver.pre (fun c => Ver.isD c == d) x <+: x := List.takeWhile_prefix _
  exact (List.prefix_iff_eq_take.1 h).symm
theorem row_drop (d : Bool) (x : List UInt8) : x.drop (rowN d x) = Ver.suf (fun c => Ver.isD c == d) x := by
  have h : Ver.pre (fun c => Ver.isD c == d) x ++ Ver.suf (fun c => Ver.isD c == d) x = x := List.takeWhile_append_dropWhile
  have h2 : (Ver.pre (fun c => Ver.isD c == d) x ++ Ver.suf (fun c => Ver.isD c == d) x).drop (rowN d x) = Ver.suf (fun c => Ver.isD c == d) x := List.drop_left
  rwa [h] at h2
theorem pre_dig_eq : (fun c => Ver.isD c == true) = Ver.isD := by funext c; simp
theorem pre_not_eq : (fun c => Ver.isD c == false) = Ver.notD := by funext c; cases h : Ver.isD c <;> simp [Ver.notD, h]

theorem take_on {f : UInt8 → Bool} {x : List UInt8} {k : Nat} (h : k < x.length) (ha : (x.take k).all f = true) (hf : f x[k] = true) : (x.take (k + 1)).all f = true := by
  rw [List.take_succ_eq_append_getElem h, List.all_append, ha]; simpa using hf

set_option maxHeartbeats 400000 in
theorem rrow_any (x : List UInt8) (hx : x.length ≤ 24) (d : Bool) (w : World) :
    Calls Tryz.prog 37 #[.string ⟨x.toArray⟩, .bool d] w fun e w' => e = .returned (.int .i64 (rowN d x)) ∧ w' = w := by
  go_enter Tryz.func37, Tryz.ntmps37
  go_wp2_with fail
  go_loop [5] (fun i => ∃ k : Nat, k ≤ x.length ∧ i = .int .i64 k ∧ (x.take k).all (fun c => Ver.isD c == d) = true) (fun i => x.length - (intOf i).toNat)
  case atStart => exact ⟨0, Nat.zero_le _, rfl, rfl⟩
  case round =>
    obtain ⟨k, hk, rfl, ha⟩ := hrel
    have HA := hide ha; clear ha
    by_cases hlt : k < x.length
    · obtain ⟨c, hc, hcx⟩ : ∃ c, (⟨x.toArray⟩ : ByteArray)[k]'hlt = c ∧ x[k] = c := ⟨_, rfl, rfl⟩
      have HC := hide hcx; clear hcx
      by_cases hd : Ver.isD c = d
      · have hb : (!Ver.isD c == d) = false := by simp [hd]
        have HD := hide hd; clear hd
        go_wp2_with (go_at_call 35; refine (rdigit_any _ _).mono ?_; rintro e w' ⟨rfl, rfl⟩)
        go_round
        case rel => exact ⟨k + 1, by omega, by go_num, take_on hlt HA.out (by rw [HC.out, HD.out]; simp)⟩
        case measure => simp [intOf]; omega
      · have hb : (!Ver.isD c == d) = true := by simp [hd]
        have HD := hide hd; clear hd
        go_wp2_with (go_at_call 35; refine (rdigit_any _ _).mono ?_; rintro e w' ⟨rfl, rfl⟩)
        go_ret
        exact ⟨ret_int (by rw [rowN_at HA.out (fun _ => by rw [HC.out]; simpa using HD.out) hk]), rfl⟩
    · go_wp2_with fail
      go_ret
      have he : x.length = rowN d x := by rw [rowN_at HA.out (fun h => absurd h hlt) hk]; omega
      exact ⟨ret_int (by omega), rfl⟩
theorem trim_step {x : List UInt8} (h : x ≠ []) (hc : ((⟨x.toArray⟩ : ByteArray)[0]'(List.length_pos_iff.2 h)).toNat = 48) : Ver.trim x = Ver.trim (x.drop 1) := by
  cases x with
  | nil => exact absurd rfl h
  | cons c l =>
    have : c = 48 := UInt8.toNat_inj.1 hc
    subst this; simp [Ver.trim]
theorem trim_stop {x : List UInt8} (h : x ≠ []) (hc : ¬ ((⟨x.toArray⟩ : ByteArray)[0]'(List.length_pos_iff.2 h)).toNat = 48) : Ver.trim x = x := by
  cases x with
  | nil => exact absurd rfl h
  | cons c l =>
    have : ¬ c = 48 := fun e => hc (by subst e; rfl)
    simp [Ver.trim, this]

set_option maxHeartbeats 400000 in
theorem rvalue_any (x : List UInt8) (hx : x.length ≤ 24) (w : World) :
    Calls Tryz.prog 40 #[.string ⟨x.toArray⟩] w fun e w' => e = .returned (.string ⟨(Ver.trim x).toArray⟩) ∧ w' = w := by
  go_enter Tryz.func40, Tryz.ntmps40
  go_wp2_with fail
  go_loop [0] (fun a => ∃ y : List UInt8, y.length ≤ 24 ∧ a = .string ⟨y.toArray⟩ ∧ Ver.trim x = Ver.trim y) (fun a => strLen a)
  case atStart => exact ⟨x, hx, rfl, rfl⟩
  case round =>
    obtain ⟨y, hy, rfl, ht⟩ := hrel
    have HT := hide ht; clear ht
    by_cases h0 : y = []
    · subst h0
      go_wp2_with fail
      go_ret
      exact ⟨ret_str (by rw [HT.out]; rfl), rfl⟩
    · have hpos : 0 < y.length := List.length_pos_iff.2 h0
      have H0 := hide h0
      obtain ⟨c, hc⟩ : ∃ c, (⟨y.toArray⟩ : ByteArray)[0]'hpos = c := ⟨_, rfl⟩
      have HC := hide hc
      clear h0
      by_cases h48 : c.toNat = 48
      · have hb : ((c.toNat : Int) == 48) = true := by simp; omega
        have H48 := hide h48; clear h48
        have c1 : (1 : Int) ≤ y.length := by omega
        go_wp2_with fail
        rw [list_ext_drop y 1]
        exact ⟨⟨y.drop 1, by rw [List.length_drop]; omega, rfl, by rw [HT.out, trim_step H0.out (by rw [HC.out]; exact H48.out)]⟩, by rw [strLen_list, strLen_list, List.length_drop]; omega⟩
      · have hb : ((c.toNat : Int) == 48) = false := by simp; omega
        have H48 := hide h48; clear h48
        go_wp2_with fail
        go_ret
        exact ⟨ret_str (by rw [HT.out, trim_stop H0.out (by rw [HC.out]; exact H48.out)]), rfl⟩
def sgn (m : Bool) (c : UInt8) : Bool := if m = true then Ver.isM c else Ver.isR c
def sgnAll (m : Bool) (x : List UInt8) : Bool := decide (0 < (x.length : Int)) && x.all (sgn m)
theorem sgn_off {m : Bool} {x : List UInt8} {k : Nat} (h : k < x.length) (hf : sgn m x[k] = false) : sgnAll m x = false := by
  have : x.all (sgn m) = false := by rw [List.all_eq_false]; exact ⟨x[k], List.getElem_mem h, by simp [hf]⟩
  simp [sgnAll, this]
theorem sgn_end {m : Bool} {x : List UInt8} {k : Nat} (h : ¬ k < x.length) (ha : (x.take k).all (sgn m) = true) : sgnAll m x = decide (0 < (x.length : Int)) := by
  rw [List.take_of_length_le (by omega)] at ha
  simp [sgnAll, ha]

theorem no_way {n : Int} (h : ((n != 46) = false ∨ (n != 43) = false) ∨ (n != 126) = false) (h1 : ¬ n = 46) (h2 : ¬ n = 43) (h3 : ¬ n = 126) : False := by simp at h; omega

set_option maxHeartbeats 1000000 in
theorem rsigns_any (x : List UInt8) (hx : x.length ≤ 24) (m : Bool) (w : World) :
    Calls Tryz.prog 36 #[.string ⟨x.toArray⟩, .bool m] w fun e w' => e = .returned (.bool (sgnAll m x)) ∧ w' = w := by
  go_enter Tryz.func36, Tryz.ntmps36
  go_wp2_with fail
  go_loop [5] (fun i => ∃ k : Nat, k ≤ x.length ∧ i = .int .i64 k ∧ (x.take k).all (sgn m) = true) (fun i => x.length - (intOf i).toNat)
  case atStart => exact ⟨0, Nat.zero_le _, rfl, rfl⟩
  case round =>
    obtain ⟨k, hk, rfl, ha⟩ := hrel
    have HA := hide ha; clear ha
    by_cases hlt : k < x.length
    · obtain ⟨c, hc, hcx⟩ : ∃ c, (⟨x.toArray⟩ : ByteArray)[k]'hlt = c ∧ x[k] = c := ⟨_, rfl, rfl⟩
      have HC := hide hcx; clear hcx
      cases m
      all_goals
        go_wp2_with (first
          | (go_at_call 35; refine (rdigit_any _ _).mono ?_; rintro e w' ⟨rfl, rfl⟩)
          | (go_at_call 65; refine (rletter_any _ _).mono ?_; rintro e w' ⟨rfl, rfl⟩))
        all_goals first
          | exact (no_way ‹_› ‹_› ‹_› ‹_›).elim
          | exact ⟨⟨k + 1, by omega, by go_num, take_on hlt HA.out (by rw [HC.out]; simp [sgn, Ver.isM, Ver.isR, *]; done)⟩, by simp [intOf]; omega⟩
          | (go_ret; exact ⟨ret_bool (sgn_off hlt (by rw [HC.out]; simp [sgn, Ver.isM, Ver.isR, *]; done)).symm, rfl⟩)
    · have he := sgn_end hlt HA.out
      have HE := hide he; clear he
      go_wp2_with fail
      go_ret
      exact ⟨ret_bool (by rw [HE.out]; simp), rfl⟩
end Go.Proofs.YtgdmgmklncmanaaGreatDoor
