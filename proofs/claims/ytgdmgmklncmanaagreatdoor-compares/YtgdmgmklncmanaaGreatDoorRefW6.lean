/- The walk over the document's own answer on versions: Compare. -/
import Derived.Test.YtgdmgmklncmanaaGreatDoorRefW5
namespace Go.Proofs.YtgdmgmklncmanaaGreatDoor
open Go.RowKit

theorem ret_ii {k : IntKind} {a b c : Int} (h : a = b) : Ending.returned (.tuple #[.int k a, .int k c]) = .returned (.tuple #[.int k b, .int k c]) := by rw [h]
theorem rver_any (x : List UInt8) (w : World) : Calls Tryz.prog 15 #[.string ⟨x.toArray⟩] w (VPost x w) := by
  by_cases h : 1 ≤ x.length ∧ x.length ≤ 24
  · exact rver_long x h.1 h.2 w
  · exact rver_short x (by omega) w
theorem rver_ok (x : List UInt8) (h : Ver.fine x = true) (w : World) : Calls Tryz.prog 15 #[.string ⟨x.toArray⟩] w fun e w' =>
    e = .returned (.tuple #[.agg #[.int .i64 (Ver.val (Ver.split3 x).e), .string ⟨(Ver.split3 x).m.toArray⟩, .string ⟨(Ver.split3 x).r.toArray⟩], .bool true]) ∧ Below w.heap.size w w' := by
  refine (rver_any x w).mono fun e w' he => ?_
  obtain ⟨E, M, R, ok, e1, e2, e3, e4⟩ := he
  rw [h] at e2
  obtain ⟨rfl, rfl, rfl⟩ := e4 e2
  subst e2
  exact ⟨e1, e3⟩
theorem rver_bad (x : List UInt8) (h : Ver.fine x = false) (w : World) : Calls Tryz.prog 15 #[.string ⟨x.toArray⟩] w fun e w' => ∃ (E : Int) (M R : List UInt8),
    e = .returned (.tuple #[.agg #[.int .i64 E, .string ⟨M.toArray⟩, .string ⟨R.toArray⟩], .bool false]) ∧ Below w.heap.size w w' := by
  refine (rver_any x w).mono fun e w' he => ?_
  obtain ⟨E, M, R, ok, e1, e2, e3, e4⟩ := he
  rw [h] at e2
  subst e2
  exact ⟨E, M, R, e1, e3⟩

theorem isM_ne {c : UInt8} (h : Ver.isM c = true) : c ≠ 0 := by rintro rfl; revert h; decide
theorem isR_ne {c : UInt8} (h : Ver.isR c = true) : c ≠ 0 := by rintro rfl; revert h; decide
theorem fine_parts {x : List UInt8} (h : Ver.fine x = true) : (∀ c ∈ (Ver.split3 x).e, Ver.isD c = true) ∧ (∀ c ∈ (Ver.split3 x).m, c ≠ 0) ∧ (∀ c ∈ (Ver.split3 x).r, c ≠ 0) := by
  simp only [Ver.fine, Bool.and_eq_true] at h
  obtain ⟨⟨⟨_, hE⟩, hM⟩, hR⟩ := h
  refine ⟨?_, ?_, ?_⟩
  · simp only [Ver.okE, Bool.and_eq_true, Ver.allL] at hE
    exact List.all_eq_true.1 hE.2
  · generalize (Ver.split3 x).m = m at hM
    cases m with
    | nil => simp
    | cons c l =>
      simp only [Ver.okM, Bool.and_eq_true, Ver.allL] at hM
      exact fun d hd => isM_ne (List.all_eq_true.1 hM.2 d hd)
  · generalize (Ver.split3 x).r = m at hR
    cases m with
    | nil => simp
    | cons c l =>
      simp only [Ver.okR, Ver.allL] at hR
      exact fun d hd => isR_ne (List.all_eq_true.1 hR d hd)

theorem rver_to (x : List UInt8) (h : Ver.fine x = true) (E : Int) (M R : List UInt8) (hE : Ver.val (Ver.split3 x).e = E) (hM : (Ver.split3 x).m = M) (hR : (Ver.split3 x).r = R) (w : World) :
    Calls Tryz.prog 15 #[.string ⟨x.toArray⟩] w fun e w' => e = .returned (.tuple #[.agg #[.int .i64 E, .string ⟨M.toArray⟩, .string ⟨R.toArray⟩], .bool true]) ∧ Below w.heap.size w w' := by
  subst hE hM hR; exact rver_ok x h w

set_option maxHeartbeats 1000000 in
theorem rcompare_fine (x y : List UInt8) (hx : Ver.fine x = true) (hy : Ver.fine y = true) (Ex Ey : Int) (m1 r1 m2 r2 : List UInt8)
    (e1 : Ver.val (Ver.split3 x).e = Ex) (e2 : (Ver.split3 x).m = m1) (e3 : (Ver.split3 x).r = r1) (e4 : Ver.val (Ver.split3 y).e = Ey) (e5 : (Ver.split3 y).m = m2) (e6 : (Ver.split3 y).r = r2)
    (l2 : m1.length ≤ 24) (l3 : r1.length ≤ 24) (l5 : m2.length ≤ 24) (l6 : r2.length ≤ 24) (z1 : Hid (∀ c ∈ m1, c ≠ 0)) (z2 : Hid (∀ c ∈ r1, c ≠ 0)) (z3 : Hid (∀ c ∈ m2, c ≠ 0)) (z4 : Hid (∀ c ∈ r2, c ≠ 0)) (w : World) :
    Calls Tryz.prog 7 #[.string ⟨x.toArray⟩, .string ⟨y.toArray⟩] w fun e w' =>
      e = .returned (.tuple #[.int .i64 (Ver.or3 (Ver.cmpI Ex Ey) (Ver.or3 (Ver.parts 25 m1 m2) (Ver.parts 25 r1 r2))), .int .i64 0]) ∧ Below w.heap.size w w' := by
  have H1 := hide e1; have H2 := hide e2; have H3 := hide e3; have H4 := hide e4; have H5 := hide e5; have H6 := hide e6
  clear e1 e2 e3 e4 e5 e6
  have HX := hide hx; have HY := hide hy; clear hx hy
  have three : ∀ C Q S : Int, (C ≠ 0 ∧ Ver.or3 C (Ver.or3 Q S) = C) ∨ (C = 0 ∧ Q ≠ 0 ∧ Ver.or3 C (Ver.or3 Q S) = Q) ∨ (C = 0 ∧ Q = 0 ∧ Ver.or3 C (Ver.or3 Q S) = S) := by
    intro C Q S
    by_cases h1 : C = 0 <;> by_cases h2 : Q = 0 <;> simp [Ver.or3, h1, h2]
  obtain ⟨C, hC⟩ : ∃ C, Ver.cmpI Ex Ey = C := ⟨_, rfl⟩
  obtain ⟨Q, hQ⟩ : ∃ Q, Ver.parts 25 m1 m2 = Q := ⟨_, rfl⟩
  obtain ⟨S, hS⟩ : ∃ S, Ver.parts 25 r1 r2 = S := ⟨_, rfl⟩
  have hall := three C Q S
  rw [hC, hQ, hS]
  generalize Ver.or3 C (Ver.or3 Q S) = Z at hall ⊢
  have HC := hide hC; have HQ := hide hQ; have HS := hide hS
  clear hC hQ hS three
  go_enter Tryz.func7, Tryz.ntmps7
  go_wp2_with fail
  refine (rver_to x HX.out Ex m1 r1 H1.out H2.out H3.out _).mono ?_
  rintro e w1 ⟨rfl, hb1⟩
  have HB1 := hide hb1; clear hb1
  go_wp2_with fail
  refine (rver_to y HY.out Ey m2 r2 H4.out H5.out H6.out _).mono ?_
  rintro e w2 ⟨rfl, hb2⟩
  obtain ⟨hc2, hf2⟩ := bcell hb2
  have hz2 : w1.heap.size < w2.heap.size := by have := hb2.size; simp at this; omega
  have HB2 := hide (below_next (o' := .cells #[.int .i64 Ey, .string ⟨m2.toArray⟩, .string ⟨r2.toArray⟩] 57) HB1.out hb2)
  clear hb2
  go_wp2_with fail
  refine (rless_any _ _ _).mono ?_
  rw [HC.out]
  rintro e w3 ⟨rfl, rfl⟩
  rcases hall with ⟨hC, hZ⟩ | ⟨rfl, hQ, hZ⟩ | ⟨rfl, rfl, hZ⟩
  · have hb : (C == 0) = false := beq_eq_false_iff_ne.2 hC
    have HZ := hide hZ; clear hZ hC
    go_wp2_with fail
    go_ret2
    exact ⟨ret_ii HZ.out.symm, HB2.out⟩
  · have hb : (Q == 0) = false := beq_eq_false_iff_ne.2 hQ
    have HZ := hide hZ; clear hZ hQ
    go_wp2_with fail
    refine (rparts_any m1 m2 l2 l5 z1.out z3.out _).mono ?_
    rw [HQ.out]
    rintro e w3 ⟨rfl, hb3⟩
    have HB3 := hide (HB2.out.trans (hb3.mono HB2.out.size)); clear hb3
    go_wp2_with fail
    go_ret2
    exact ⟨ret_ii HZ.out.symm, HB3.out⟩
  · have HZ := hide hZ; clear hZ
    go_wp2_with fail
    refine (rparts_any m1 m2 l2 l5 z1.out z3.out _).mono ?_
    rw [HQ.out]
    rintro e w3 ⟨rfl, hb3⟩
    obtain ⟨hc3, hf3⟩ := bcell hb3
    have hz3 : w2.heap.size < w3.heap.size := by have := hb3.size; simp at this; omega
    have HB3 := hide (HB2.out.trans (hb3.mono HB2.out.size)); clear hb3
    go_wp2_with fail
    refine (rparts_any r1 r2 l3 l6 z2.out z4.out _).mono ?_
    rw [HS.out]
    rintro e w4 ⟨rfl, hb4⟩
    have HB4 := hide (HB3.out.trans (hb4.mono HB3.out.size)); clear hb4
    go_wp2_with fail
    go_ret2
    exact ⟨ret_ii HZ.out.symm, HB4.out⟩

set_option maxHeartbeats 1000000 in
theorem rcompare_any (x y : List UInt8) (w : World) :
    Calls Tryz.prog 7 #[.string ⟨x.toArray⟩, .string ⟨y.toArray⟩] w fun e w' =>
      e = .returned (.tuple #[.int .i64 (Ver.compare x y).1, .int .i64 (Ver.compare x y).2]) ∧ Below w.heap.size w w' := by
  cases hx : Ver.fine x
  · rw [compare_bad1 hx]
    cases hy : Ver.fine y
    all_goals
      go_enter Tryz.func7, Tryz.ntmps7
      go_wp2_with fail
      refine (rver_bad x hx _).mono ?_
      rintro e w1 ⟨E1, M1, R1, rfl, hb1⟩
      have HB1 := hide hb1; clear hb1
      go_wp2_with fail
    · refine (rver_bad y hy _).mono ?_
      rintro e w2 ⟨E2, M2, R2, rfl, hb2⟩
      have HB2 := hide hb2; clear hb2
      go_wp2_with fail
      go_ret2
      exact ⟨rfl, below_next HB1.out HB2.out⟩
    · refine (rver_ok y hy _).mono ?_
      rintro e w2 ⟨rfl, hb2⟩
      have HB2 := hide hb2; clear hb2
      go_wp2_with fail
      go_ret2
      exact ⟨rfl, below_next HB1.out HB2.out⟩
  · cases hy : Ver.fine y
    · rw [compare_bad2 hy]
      go_enter Tryz.func7, Tryz.ntmps7
      go_wp2_with fail
      refine (rver_ok x hx _).mono ?_
      rintro e w1 ⟨rfl, hb1⟩
      have HB1 := hide hb1; clear hb1
      go_wp2_with fail
      refine (rver_bad y hy _).mono ?_
      rintro e w2 ⟨E2, M2, R2, rfl, hb2⟩
      have HB2 := hide hb2; clear hb2
      go_wp2_with fail
      go_ret2
      exact ⟨rfl, below_next HB1.out HB2.out⟩
    · rw [compare_ok hx hy]
      obtain ⟨l1, l2, l3⟩ := split3_len hx
      obtain ⟨l4, l5, l6⟩ := split3_len hy
      obtain ⟨d1, z1, z2⟩ := fine_parts hx
      obtain ⟨d2, z3, z4⟩ := fine_parts hy
      have hv : Ver.cmpV (Ver.split3 x) (Ver.split3 y) = Ver.or3 (Ver.cmpI (Ver.val (Ver.split3 x).e) (Ver.val (Ver.split3 y).e)) (Ver.or3 (Ver.parts 25 (Ver.split3 x).m (Ver.split3 y).m) (Ver.parts 25 (Ver.split3 x).r (Ver.split3 y).r)) := by
        rw [Ver.cmpV, Ver.nums_val d1 d2 l1]
      rw [hv]
      clear hv d1 d2
      exact rcompare_fine x y hx hy _ _ _ _ _ _ rfl rfl rfl rfl rfl rfl l2 l3 l5 l6 z1 z2 z3 z4 w
end Go.Proofs.YtgdmgmklncmanaaGreatDoor
