/- The walk over compareParts. -/
import Derived.Test.YtenahjbofhkinaaDoorVerW4
namespace Go.Proofs.YtenahjbofhkinaaDoor
open Go.RowKit

theorem suf_le (f : UInt8 → Bool) (l : List UInt8) : (Ver.suf f l).length ≤ l.length := (List.dropWhile_suffix _).length_le
theorem pre_le (f : UInt8 → Bool) (l : List UInt8) : (Ver.pre f l).length ≤ l.length := (List.takeWhile_prefix _).length_le
theorem suf_two (l : List UInt8) : (Ver.suf Ver.isD (Ver.suf Ver.notD l)).length ≤ l.length - 1 := by
  cases l with
  | nil => simp [Ver.suf]
  | cons c l =>
    cases h : Ver.isD c
    · have e : Ver.suf Ver.notD (c :: l) = Ver.suf Ver.notD l := by simp [Ver.suf, Ver.notD, h]
      rw [e]
      exact Nat.le_trans (suf_le _ _) (suf_le _ _)
    · have e : Ver.suf Ver.notD (c :: l) = c :: l := by simp [Ver.suf, Ver.notD, h]
      have e' : Ver.suf Ver.isD (c :: l) = Ver.suf Ver.isD l := by simp [Ver.suf, h]
      rw [e, e']
      exact suf_le _ _
theorem cutRow_list (g : Nat) (f : UInt8 → Bool) (he : ∀ args w, (callFunc g args).run Tryd.prog w = .ok (.enter g args) w)
    (hg : ∀ (c : UInt8) (w : World), Calls Tryd.prog g #[.int .u8 c.toNat] w fun e w' => e = .returned (.bool (f c)) ∧ w' = w)
    (x : List UInt8) (hx : x.length ≤ 24) (w : World) :
    Calls Tryd.prog 26 #[.string ⟨x.toArray⟩, .func (.func g) #[] #[]] w fun e w' =>
      e = .returned (.tuple #[.string ⟨(Ver.pre f x).toArray⟩, .string ⟨(Ver.suf f x).toArray⟩]) ∧ Below w.heap.size w w' :=
  cutRow_any g f he hg ⟨x.toArray⟩ (by simp [ByteArray.size]; omega) w
theorem enters_isDigit (args : Array Value) (w : World) : (callFunc 20 args).run Tryd.prog w = .ok (.enter 20 args) w :=
  enters Tryd.func20 (by kernel_rfl) rfl args w
theorem enters_isNoDigit (args : Array Value) (w : World) : (callFunc 27 args).run Tryd.prog w = .ok (.enter 27 args) w :=
  enters Tryd.func27 (by kernel_rfl) rfl args w
theorem cut_digits (x : List UInt8) (hx : x.length ≤ 24) (w : World) :
    Calls Tryd.prog 26 #[.string ⟨x.toArray⟩, .func (.func 20) #[] #[]] w fun e w' =>
      e = .returned (.tuple #[.string ⟨(Ver.pre Ver.isD x).toArray⟩, .string ⟨(Ver.suf Ver.isD x).toArray⟩]) ∧ Below w.heap.size w w' :=
  cutRow_list _ _ enters_isDigit isDigit_any x hx w
theorem cut_others (x : List UInt8) (hx : x.length ≤ 24) (w : World) :
    Calls Tryd.prog 26 #[.string ⟨x.toArray⟩, .func (.func 27) #[] #[]] w fun e w' =>
      e = .returned (.tuple #[.string ⟨(Ver.pre Ver.notD x).toArray⟩, .string ⟨(Ver.suf Ver.notD x).toArray⟩]) ∧ Below w.heap.size w w' :=
  cutRow_list _ _ enters_isNoDigit isNoDigit_any x hx w
theorem signs_list (x y : List UInt8) (hx : x.length ≤ 24) (hy : y.length ≤ 24) (w : World) :
    Calls Tryd.prog 28 #[.string ⟨x.toArray⟩, .string ⟨y.toArray⟩] w fun e w' => e = .returned (.int .i64 (Ver.signs 25 x y)) ∧ w' = w :=
  signs_any ⟨x.toArray⟩ ⟨y.toArray⟩ (by simpa [ByteArray.size] using hx) (by simpa [ByteArray.size] using hy) w
theorem nums_list (x y : List UInt8) (hx : x.length ≤ 24) (hy : y.length ≤ 24) (w : World) :
    Calls Tryd.prog 15 #[.string ⟨x.toArray⟩, .string ⟨y.toArray⟩] w fun e w' => e = .returned (.int .i64 (Ver.nums x y)) ∧ Below w.heap.size w w' :=
  nums_any ⟨x.toArray⟩ ⟨y.toArray⟩ (by simpa [ByteArray.size] using hx) (by simpa [ByteArray.size] using hy) w

def strLen : Value → Nat
  | .string s => s.size
  | _ => 0
theorem strLen_list (x : List UInt8) : strLen (.string ⟨x.toArray⟩) = x.length := rfl
theorem strLen_lt {a b x y : List UInt8} (ha : a.length ≤ x.length - 1) (hb : b.length ≤ y.length - 1) (h : 0 < x.length + y.length) :
    strLen (.string ⟨a.toArray⟩) + strLen (.string ⟨b.toArray⟩) < strLen (.string ⟨x.toArray⟩) + strLen (.string ⟨y.toArray⟩) := by
  simp only [strLen_list]; omega
theorem len_on {a x : List UInt8} {k : Nat} (ha : a.length ≤ x.length - 1) (hx : x.length ≤ 24 - k) : a.length ≤ 24 - (k + 1) := by omega
theorem parts_1 {k : Nat} {x y : List UInt8} (hk : k ≤ 23) (h : Ver.signs 25 (Ver.pre Ver.notD x) (Ver.pre Ver.notD y) ≠ 0) : Ver.parts (25 - k) x y = Ver.signs 25 (Ver.pre Ver.notD x) (Ver.pre Ver.notD y) := by
  rw [show 25 - k = (25 - (k + 1)) + 1 from by omega, Ver.parts, Ver.or3, if_neg h]
theorem parts_2 {k : Nat} {x y : List UInt8} (hk : k ≤ 23) (h : Ver.signs 25 (Ver.pre Ver.notD x) (Ver.pre Ver.notD y) = 0)
    (h2 : Ver.nums (Ver.pre Ver.isD (Ver.suf Ver.notD x)) (Ver.pre Ver.isD (Ver.suf Ver.notD y)) ≠ 0) : Ver.parts (25 - k) x y = Ver.nums (Ver.pre Ver.isD (Ver.suf Ver.notD x)) (Ver.pre Ver.isD (Ver.suf Ver.notD y)) := by
  rw [show 25 - k = (25 - (k + 1)) + 1 from by omega, Ver.parts, h, Ver.or3, if_pos rfl, Ver.or3, if_neg h2]
theorem parts_3 {k : Nat} {x y : List UInt8} (hk : k ≤ 23) (h : Ver.signs 25 (Ver.pre Ver.notD x) (Ver.pre Ver.notD y) = 0)
    (h2 : Ver.nums (Ver.pre Ver.isD (Ver.suf Ver.notD x)) (Ver.pre Ver.isD (Ver.suf Ver.notD y)) = 0) :
    Ver.parts (25 - k) x y = Ver.parts (25 - (k + 1)) (Ver.suf Ver.isD (Ver.suf Ver.notD x)) (Ver.suf Ver.isD (Ver.suf Ver.notD y)) := by
  rw [show 25 - k = (25 - (k + 1)) + 1 from by omega, Ver.parts, h, Ver.or3, if_pos rfl, h2, Ver.or3, if_pos rfl]

set_option maxHeartbeats 1000000 in
theorem parts_any (x y : List UInt8) (hx : x.length ≤ 24) (hy : y.length ≤ 24) (w : World) :
    Calls Tryd.prog 16 #[.string ⟨x.toArray⟩, .string ⟨y.toArray⟩] w fun e w' => e = .returned (.int .i64 (Ver.parts 25 x y)) ∧ Below w.heap.size w w' := by
  go_enter Tryd.func16, Tryd.ntmps16
  go_wp2_with fail
  go_loopw [0, 1] (fun a b wr => ∃ (k : Nat) (x' y' : List UInt8), k ≤ 24 ∧ x'.length ≤ 24 - k ∧ y'.length ≤ 24 - k ∧ a = .string ⟨x'.toArray⟩ ∧ b = .string ⟨y'.toArray⟩ ∧ Ver.parts 25 x y = Ver.parts (25 - k) x' y' ∧ Below w.heap.size w wr)
    (fun a b _ => strLen a + strLen b)
  case atStart => exact ⟨0, x, y, Nat.zero_le _, hx, hy, rfl, rfl, rfl, Below.refl _ _⟩
  case round =>
    obtain ⟨k, x', y', hk, hx', hy', rfl, rfl, hs, hb⟩ := hrel
    have HS := hide hs; clear hs
    have HB := hide hb; clear hb
    have h24x : x'.length ≤ 24 := by omega
    have h24y : y'.length ≤ 24 := by omega
    have HX := hide (suf_two x')
    have HY := hide (suf_two y')
    by_cases hne : x'.length = 0 ∧ y'.length = 0
    · obtain ⟨h1, h2⟩ := hne
      have h1' := List.eq_nil_of_length_eq_zero h1
      have h2' := List.eq_nil_of_length_eq_zero h2
      subst h1' h2'
      go_wp2_with fail
      go_ret
      exact ⟨ret_int (by rw [HS.out, Ver.parts_nil]), HB.out⟩
    · have hk' : k ≤ 23 := by omega
      have hpos : 0 < x'.length + y'.length := by omega
      have htest : x' ≠ [] ∨ (x' = [] ∧ (!y'.isEmpty) = true) := by
        cases x' with
        | nil => cases y' with
          | nil => simp at hpos
          | cons d m => exact .inr ⟨rfl, rfl⟩
        | cons c l => exact .inl (by simp)
      clear hne
      by_cases hc : Ver.signs 25 (Ver.pre Ver.notD x') (Ver.pre Ver.notD y') = 0
      · have HC := hide hc
        have hc' : (Ver.signs 25 (Ver.pre Ver.notD x') (Ver.pre Ver.notD y') != 0) = false := bne_eq_false_iff_eq.2 hc
        clear hc
        by_cases hd : Ver.nums (Ver.pre Ver.isD (Ver.suf Ver.notD x')) (Ver.pre Ver.isD (Ver.suf Ver.notD y')) = 0
        · have HD := hide hd
          have hd' : (Ver.nums (Ver.pre Ver.isD (Ver.suf Ver.notD x')) (Ver.pre Ver.isD (Ver.suf Ver.notD y')) != 0) = false := bne_eq_false_iff_eq.2 hd
          clear hd
          rcases htest with h | ⟨rfl, h⟩
          all_goals
            go_wp2_with (first
              | (go_at_call_of 26 (Value.func (Fn.func (27 : Nat)) #[] #[]); refine (cut_others _ (by assumption) _).mono ?_; rintro e w' ⟨rfl, hb⟩; replace HB := hide (HB.out.trans (hb.mono HB.out.size)); clear hb)
              | (go_at_call_of 26 (Value.func (Fn.func (20 : Nat)) #[] #[]); refine (cut_digits _ (Nat.le_trans (suf_le _ _) (by assumption)) _).mono ?_; rintro e w' ⟨rfl, hb⟩; replace HB := hide (HB.out.trans (hb.mono HB.out.size)); clear hb)
              | (go_at_call 28; refine (signs_list _ _ (Nat.le_trans (pre_le _ _) (by assumption)) (Nat.le_trans (pre_le _ _) (by assumption)) _).mono ?_; rintro e w' ⟨rfl, rfl⟩)
              | (go_at_call 15; refine (nums_list _ _ (Nat.le_trans (pre_le _ _) (Nat.le_trans (suf_le _ _) (by assumption))) (Nat.le_trans (pre_le _ _) (Nat.le_trans (suf_le _ _) (by assumption))) _).mono ?_; rintro e w' ⟨rfl, hb⟩; replace HB := hide (HB.out.trans (hb.mono HB.out.size)); clear hb))
            exact ⟨⟨k + 1, _, _, by omega, len_on HX.out hx', len_on HY.out hy', rfl, rfl, by rw [HS.out, parts_3 hk' HC.out HD.out], HB.out⟩, strLen_lt HX.out HY.out hpos⟩
        · have HD := hide hd
          have hd' : (Ver.nums (Ver.pre Ver.isD (Ver.suf Ver.notD x')) (Ver.pre Ver.isD (Ver.suf Ver.notD y')) != 0) = true := bne_iff_ne.2 hd
          clear hd
          rcases htest with h | ⟨rfl, h⟩
          all_goals
            go_wp2_with (first
              | (go_at_call_of 26 (Value.func (Fn.func (27 : Nat)) #[] #[]); refine (cut_others _ (by assumption) _).mono ?_; rintro e w' ⟨rfl, hb⟩; replace HB := hide (HB.out.trans (hb.mono HB.out.size)); clear hb)
              | (go_at_call_of 26 (Value.func (Fn.func (20 : Nat)) #[] #[]); refine (cut_digits _ (Nat.le_trans (suf_le _ _) (by assumption)) _).mono ?_; rintro e w' ⟨rfl, hb⟩; replace HB := hide (HB.out.trans (hb.mono HB.out.size)); clear hb)
              | (go_at_call 28; refine (signs_list _ _ (Nat.le_trans (pre_le _ _) (by assumption)) (Nat.le_trans (pre_le _ _) (by assumption)) _).mono ?_; rintro e w' ⟨rfl, rfl⟩)
              | (go_at_call 15; refine (nums_list _ _ (Nat.le_trans (pre_le _ _) (Nat.le_trans (suf_le _ _) (by assumption))) (Nat.le_trans (pre_le _ _) (Nat.le_trans (suf_le _ _) (by assumption))) _).mono ?_; rintro e w' ⟨rfl, hb⟩; replace HB := hide (HB.out.trans (hb.mono HB.out.size)); clear hb))
            go_ret
            exact ⟨ret_int (by rw [HS.out, parts_2 hk' HC.out HD.out]), HB.out⟩
      · have HC := hide hc
        have hc' : (Ver.signs 25 (Ver.pre Ver.notD x') (Ver.pre Ver.notD y') != 0) = true := bne_iff_ne.2 hc
        clear hc
        rcases htest with h | ⟨rfl, h⟩
        all_goals
          go_wp2_with (first
            | (go_at_call_of 26 (Value.func (Fn.func (27 : Nat)) #[] #[]); refine (cut_others _ (by assumption) _).mono ?_; rintro e w' ⟨rfl, hb⟩; replace HB := hide (HB.out.trans (hb.mono HB.out.size)); clear hb)
            | (go_at_call_of 26 (Value.func (Fn.func (20 : Nat)) #[] #[]); refine (cut_digits _ (Nat.le_trans (suf_le _ _) (by assumption)) _).mono ?_; rintro e w' ⟨rfl, hb⟩; replace HB := hide (HB.out.trans (hb.mono HB.out.size)); clear hb)
            | (go_at_call 28; refine (signs_list _ _ (Nat.le_trans (pre_le _ _) (by assumption)) (Nat.le_trans (pre_le _ _) (by assumption)) _).mono ?_; rintro e w' ⟨rfl, rfl⟩)
            | (go_at_call 15; refine (nums_list _ _ (Nat.le_trans (pre_le _ _) (Nat.le_trans (suf_le _ _) (by assumption))) (Nat.le_trans (pre_le _ _) (Nat.le_trans (suf_le _ _) (by assumption))) _).mono ?_; rintro e w' ⟨rfl, hb⟩; replace HB := hide (HB.out.trans (hb.mono HB.out.size)); clear hb))
          go_ret
          exact ⟨ret_int (by rw [HS.out, parts_1 hk' HC.out]), HB.out⟩
end Go.Proofs.YtenahjbofhkinaaDoor
