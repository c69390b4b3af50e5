/- The walks over version.Parse whole and pack.Compare. -/
import Derived.Test.YtenahjbofhkinaaDoorVerW8
namespace Go.Proofs.YtenahjbofhkinaaDoor
open Go.RowKit

theorem fine_okV {x : List UInt8} (h0 : 1 ≤ x.length) (h1 : x.length ≤ 24) : Ver.fine x = okV (Ver.split3 x).e (Ver.split3 x).m (Ver.split3 x).r := by
  simp [Ver.fine, okV, h0, h1]

theorem parse_split (x : List UInt8) (h0 : 1 ≤ x.length) (h1 : x.length ≤ 24) (w : World) :
    Calls Tryd.prog 7 #[.string ⟨x.toArray⟩] w (Parsed (Ver.split3 x).e (Ver.split3 x).m (Ver.split3 x).r w) := by
  simp only [Ver.split3]
  rcases Ver.cutC_cases x with ⟨a1, a2⟩ | ⟨j, aj, a1, a2⟩
  · rw [a2]
    rcases Ver.cutM_cases x with ⟨b1, b2⟩ | ⟨k, bk, b1, b2⟩
    · rw [b2]; exact parse_n_n x h0 h1 a1 b1 w
    · rw [b2]; exact parse_n_d x h0 h1 a1 k bk b1 w
  · rw [a2]
    have hlE : (x.take j).length ≤ 24 := by rw [List.length_take]; omega
    have hlm : (x.drop (j + 1)).length ≤ 24 := by rw [List.length_drop]; omega
    rcases Ver.cutM_cases (x.drop (j + 1)) with ⟨b1, b2⟩ | ⟨k, bk, b1, b2⟩
    · rw [b2]; exact parse_c_n x h0 h1 _ _ j aj a1 rfl rfl hlE hlm b1 w
    · rw [b2]; exact parse_c_d x h0 h1 _ _ j aj a1 rfl rfl hlE hlm k bk b1 w

theorem parse_ok (x : List UInt8) (h : Ver.fine x = true) (w : World) :
    Calls Tryd.prog 7 #[.string ⟨x.toArray⟩] w fun e w' =>
      e = .returned (.tuple #[.agg #[.string ⟨(Ver.split3 x).e.toArray⟩, .string ⟨(Ver.split3 x).m.toArray⟩, .string ⟨(Ver.split3 x).r.toArray⟩], .bool true]) ∧ Below w.heap.size w w' := by
  have h0 : 1 ≤ x.length ∧ x.length ≤ 24 := by simp [Ver.fine] at h; exact ⟨by omega, by omega⟩
  have hv := (fine_okV h0.1 h0.2).symm.trans h
  refine (parse_split x h0.1 h0.2 w).mono fun e w' he => ?_
  obtain ⟨e1, hb⟩ := he
  refine ⟨?_, hb⟩
  rw [e1, hv]; simp [pv, hv]
theorem parse_bad (x : List UInt8) (h : Ver.fine x = false) (w : World) :
    Calls Tryd.prog 7 #[.string ⟨x.toArray⟩] w fun e w' =>
      e = .returned (.tuple #[.agg #[.string ⟨#[]⟩, .string ⟨#[]⟩, .string ⟨#[]⟩], .bool false]) ∧ Below w.heap.size w w' := by
  by_cases h0 : 1 ≤ x.length ∧ x.length ≤ 24
  · have hv := (fine_okV h0.1 h0.2).symm.trans h
    refine (parse_split x h0.1 h0.2 w).mono fun e w' he => ?_
    obtain ⟨e1, hb⟩ := he
    refine ⟨?_, hb⟩
    rw [e1, hv]; simp [pv, hv, zv]
  · exact parse_short ⟨x.toArray⟩ (by show x.length = 0 ∨ 24 < x.length; omega) w

theorem split3_len {x : List UInt8} (h : Ver.fine x = true) : (Ver.split3 x).e.length ≤ 24 ∧ (Ver.split3 x).m.length ≤ 24 ∧ (Ver.split3 x).r.length ≤ 24 := by
  have h0 : 1 ≤ x.length ∧ x.length ≤ 24 := by simp [Ver.fine] at h; exact ⟨by omega, by omega⟩
  have := Ver.cutC_len x
  have := Ver.cutC_len1 x h0.1
  have := Ver.cutM_len1 (Ver.cutC x).2
  have := Ver.cutM_len2 (Ver.cutC x).2 (by omega)
  simp only [Ver.split3]; omega

theorem compare_ok {x y : List UInt8} (hx : Ver.fine x = true) (hy : Ver.fine y = true) : Ver.compare x y = (Ver.cmpV (Ver.split3 x) (Ver.split3 y), 0) := by simp [Ver.compare, hx, hy]
theorem compare_bad1 {x y : List UInt8} (hx : Ver.fine x = false) : Ver.compare x y = (0, 2) := by simp [Ver.compare, hx]
theorem compare_bad2 {x y : List UInt8} (hy : Ver.fine y = false) : Ver.compare x y = (0, 2) := by simp [Ver.compare, hy]

theorem below_next {w w1 w2 : World} {o o' : Obj} (h1 : Below w.heap.size w w1) (h2 : Below (w1.alloc o).heap.size (w1.alloc o) w2) : Below w.heap.size w (w2.alloc o') := by
  have h := (h1.alloc h1.size o).trans (h2.mono (Nat.le_trans h1.size (by simp)))
  exact h.alloc h.size o'

set_option maxHeartbeats 1000000 in
theorem compare_any (x y : List UInt8) (w : World) :
    Calls Tryd.prog 6 #[.string ⟨x.toArray⟩, .string ⟨y.toArray⟩] w fun e w' =>
      e = .returned (.tuple #[.int .i64 (Ver.compare x y).1, .int .i64 (Ver.compare x y).2]) ∧ Below w.heap.size w w' := by
  cases hx : Ver.fine x
  · cases hy : Ver.fine y
    · rw [compare_bad1 hx]
      go_enter Tryd.func6, Tryd.ntmps6
      go_wp2_with fail
      refine (parse_bad x hx _).mono ?_
      rintro e w1 ⟨rfl, hb1⟩
      have HB1 := hide hb1; clear hb1
      go_wp2_with fail
      refine (parse_bad y hy _).mono ?_
      rintro e w2 ⟨rfl, hb2⟩
      have HB2 := hide hb2; clear hb2
      go_wp2_with fail
      go_ret2
      exact ⟨rfl, below_next HB1.out HB2.out⟩
    · rw [compare_bad1 hx]
      go_enter Tryd.func6, Tryd.ntmps6
      go_wp2_with fail
      refine (parse_bad x hx _).mono ?_
      rintro e w1 ⟨rfl, hb1⟩
      have HB1 := hide hb1; clear hb1
      go_wp2_with fail
      refine (parse_ok y hy _).mono ?_
      rintro e w2 ⟨rfl, hb2⟩
      have HB2 := hide hb2; clear hb2
      go_wp2_with fail
      go_ret2
      exact ⟨rfl, below_next HB1.out HB2.out⟩
  · cases hy : Ver.fine y
    · rw [compare_bad2 hy]
      go_enter Tryd.func6, Tryd.ntmps6
      go_wp2_with fail
      refine (parse_ok x hx _).mono ?_
      rintro e w1 ⟨rfl, hb1⟩
      have HB1 := hide hb1; clear hb1
      go_wp2_with fail
      refine (parse_bad y hy _).mono ?_
      rintro e w2 ⟨rfl, hb2⟩
      have HB2 := hide hb2; clear hb2
      go_wp2_with fail
      go_ret2
      exact ⟨rfl, below_next HB1.out HB2.out⟩
    · rw [compare_ok hx hy]
      obtain ⟨l1, l2, l3⟩ := split3_len hx
      obtain ⟨l4, l5, l6⟩ := split3_len hy
      go_enter Tryd.func6, Tryd.ntmps6
      go_wp2_with fail
      refine (parse_ok x hx _).mono ?_
      rintro e w1 ⟨rfl, hb1⟩
      have HB1 := hide hb1; clear hb1
      go_wp2_with fail
      refine (parse_ok y hy _).mono ?_
      rintro e w2 ⟨rfl, hb2⟩
      obtain ⟨hc2, hf2⟩ := bcell hb2
      have hz2 : w1.heap.size < w2.heap.size := by have := hb2.size; simp at this; omega
      have HB2 := hide hb2; clear hb2
      go_wp2_with fail
      refine (vcmp_any _ _ _ _ _ _ l1 l2 l3 l4 l5 l6 _).mono ?_
      rintro e w3 ⟨rfl, hb3⟩
      have HB3 := hide hb3; clear hb3
      go_wp2_with fail
      go_ret2
      exact ⟨rfl, (below_next HB1.out HB2.out).trans (HB3.out.mono (below_next HB1.out HB2.out).size)⟩
end Go.Proofs.YtenahjbofhkinaaDoor
