/- Of Ins: RefW6, CmpW1, RdMath. -/
import Derived.Test.YtgdmgmklncmanaaGreatDoorIns16
import Derived.Test.YtgdmgmklncmanaaGreatDoorIns15
import Derived.Test.YtgdmgmklncmanaaGreatDoorIns4
import Derived.Test.YtgdmgmklncmanaaGreatDoorIns7
/- The walk over the document's own answer on versions: Compare. -/
namespace Go.Proofs.YtgdmgmklncmanaaGreatDoor
open Go.RowKit

theorem ret_ii {k : IntKind} {a b c : Int} (h : a = b) : Ending.returned (.tuple #[.int k a, .int k c]) = .returned (.tuple #[.int k b, .int k c]) := by rw [h]
theorem rver_any (x : List UInt8) (w : World) : Calls Tryz.prog 15 #[.string ⟨x.toArray⟩] w (VPost x w) := by
  by_cases h : 1 ≤ x.length ∧ x.length ≤ 24
  · exact rver_long x h.1 h.2 w
  · exact rver_short x (by omega) w
theorem rver_ok (x : List UInt8) (h : Ver.fine x = true) (w : World) : Calls Tryz.prog 15 #[.string ⟨x.toArray⟩] w fun e w' =>
    e = .returned (.tuple #[.agg #[.int .i64 (Ver.val (Ver.split3 x).e), .string ⟨(Ver.split3 x).m.toArray⟩, .string ⟨(Ver.split3 x).r.toArray⟩], .bool true]) ∧ Below w.heap.size w w' := by
  refine (rver_any x w).mono fun e w' he => ?_
  obtain ⟨E, M, R, ok, e1, e2, e3, e4⟩ := he
  rw [h] at e2
  obtain ⟨rfl, rfl, rfl⟩ := e4 e2
  subst e2
  exact ⟨e1, e3⟩
theorem rver_bad (x : List UInt8) (h : Ver.fine x = false) (w : World) : Calls Tryz.prog 15 #[.string ⟨x.toArray⟩] w fun e w' => ∃ (E : Int) (M R : List UInt8),
    e = .returned (.tuple #[.agg #[.int .i64 E, .string ⟨M.toArray⟩, .string ⟨R.toArray⟩], .bool false]) ∧ Below w.heap.size w w' := by
  refine (rver_any x w).mono fun e w' he => ?_
  obtain ⟨E, M, R, ok, e1, e2, e3, e4⟩ := he
  rw [h] at e2
  subst e2
  exact ⟨E, M, R, e1, e3⟩

theorem isM_ne {c : UInt8} (h : Ver.isM c = true) : c ≠ 0 := by rintro rfl; revert h; decide
theorem isR_ne {c : UInt8} (h : Ver.isR c = true) : c ≠ 0 := by rintro rfl; revert h; decide
theorem fine_parts {x : List UInt8} (h : Ver.fine x = true) : (∀ c ∈ (Ver.split3 x).e, Ver.isD c = true) ∧ (∀ c ∈ (Ver.split3 x).m, c ≠ 0) ∧ (∀ c ∈ (Ver.split3 x).r, c ≠ 0) := by
  simp only [Ver.fine, Bool.and_eq_true] at h
  obtain ⟨⟨⟨_, hE⟩, hM⟩, hR⟩ := h
  refine ⟨?_, ?_, ?_⟩
  · simp only [Ver.okE, Bool.and_eq_true, Ver.allL] at hE
    exact List.all_eq_true.1 hE.2
  · generalize (Ver.split3 x).m = m at hM
    cases m with
    | nil => simp
    | cons c l =>
      simp only [Ver.okM, Bool.and_eq_true, Ver.allL] at hM
      exact fun d hd => isM_ne (List.all_eq_true.1 hM.2 d hd)
  · generalize (Ver.split3 x).r = m at hR
    cases m with
    | nil => simp
    | cons c l =>
      simp only [Ver.okR, Ver.allL] at hR
      exact fun d hd => isR_ne (List.all_eq_true.1 hR d hd)

theorem rver_to (x : List UInt8) (h : Ver.fine x = true) (E : Int) (M R : List UInt8) (hE : Ver.val (Ver.split3 x).e = E) (hM : (Ver.split3 x).m = M) (hR : (Ver.split3 x).r = R) (w : World) :
    Calls Tryz.prog 15 #[.string ⟨x.toArray⟩] w fun e w' => e = .returned (.tuple #[.agg #[.int .i64 E, .string ⟨M.toArray⟩, .string ⟨R.toArray⟩], .bool true]) ∧ Below w.heap.size w w' := by
  subst hE hM hR; exact rver_ok x h w

set_option maxHeartbeats 1000000 in
theorem rcompare_fine (x y : List UInt8) (hx : Ver.fine x = true) (hy : Ver.fine y = true) (Ex Ey : Int) (m1 r1 m2 r2 : List UInt8)
    (e1 : Ver.val (Ver.split3 x).e = Ex) (e2 : (Ver.split3 x).m = m1) (e3 : (Ver.split3 x).r = r1) (e4 : Ver.val (Ver.split3 y).e = Ey) (e5 : (Ver.split3 y).m = m2) (e6 : (Ver.split3 y).r = r2)
    (l2 : m1.length ≤ 24) (l3 : r1.length ≤ 24) (l5 : m2.length ≤ 24) (l6 : r2.length ≤ 24) (z1 : Hid (∀ c ∈ m1, c ≠ 0)) (z2 : Hid (∀ c ∈ r1, c ≠ 0)) (z3 : Hid (∀ c ∈ m2, c ≠ 0)) (z4 : Hid (∀ c ∈ r2, c ≠ 0)) (w : World) :
    Calls Tryz.prog 7 #[.string ⟨x.toArray⟩, .string ⟨y.toArray⟩] w fun e w' =>
      e = .returned (.tuple #[.int .i64 (Ver.or3 (Ver.cmpI Ex Ey) (Ver.or3 (Ver.parts 25 m1 m2) (Ver.parts 25 r1 r2))), .int .i64 0]) ∧ Below w.heap.size w w' := by
  have H1 := hide e1; have H2 := hide e2; have H3 := hide e3; have H4 := hide e4; have H5 := hide e5; have H6 := hide e6
  clear e1 e2 e3 e4 e5 e6
  have HX := hide hx; have HY := hide hy; clear hx hy
  have three : ∀ C Q S : Int, (C ≠ 0 ∧ Ver.or3 C (Ver.or3 Q S) = C) ∨ (C = 0 ∧ Q ≠ 0 ∧ Ver.or3 C (Ver.or3 Q S) = Q) ∨ (C = 0 ∧ Q = 0 ∧ Ver.or3 C (Ver.or3 Q S) = S) := by
    intro C Q S
    by_cases h1 : C = 0 <;> by_cases h2 : Q = 0 <;> simp [Ver.or3, h1, h2]
  obtain ⟨C, hC⟩ : ∃ C, Ver.cmpI Ex Ey = C := ⟨_, rfl⟩
  obtain ⟨Q, hQ⟩ : ∃ Q, Ver.parts 25 m1 m2 = Q := ⟨_, rfl⟩
  obtain ⟨S, hS⟩ : ∃ S, Ver.parts 25 r1 r2 = S := ⟨_, rfl⟩
  have hall := three C Q S
  rw [hC, hQ, hS]
  generalize Ver.or3 C (Ver.or3 Q S) = Z at hall ⊢
  have HC := hide hC; have HQ := hide hQ; have HS := hide hS
  clear hC hQ hS three
  go_enter Tryz.func7, Tryz.ntmps7
  go_wp2_with fail
  refine (rver_to x HX.out Ex m1 r1 H1.out H2.out H3.out _).mono ?_
  rintro e w1 ⟨rfl, hb1⟩
  have HB1 := hide hb1; clear hb1
  go_wp2_with fail
  refine (rver_to y HY.out Ey m2 r2 H4.out H5.out H6.out _).mono ?_
  rintro e w2 ⟨rfl, hb2⟩
  obtain ⟨hc2, hf2⟩ := bcell hb2
  have hz2 : w1.heap.size < w2.heap.size := by have := hb2.size; simp at this; omega
  have HB2 := hide (below_next (o' := .cells #[.int .i64 Ey, .string ⟨m2.toArray⟩, .string ⟨r2.toArray⟩] 57) HB1.out hb2)
  clear hb2
  go_wp2_with fail
  refine (rless_any _ _ _).mono ?_
  rw [HC.out]
  rintro e w3 ⟨rfl, rfl⟩
  rcases hall with ⟨hC, hZ⟩ | ⟨rfl, hQ, hZ⟩ | ⟨rfl, rfl, hZ⟩
  · have hb : (C == 0) = false := beq_eq_false_iff_ne.2 hC
    have HZ := hide hZ; clear hZ hC
    go_wp2_with fail
    go_ret2
    exact ⟨ret_ii HZ.out.symm, HB2.out⟩
  · have hb : (Q == 0) = false := beq_eq_false_iff_ne.2 hQ
    have HZ := hide hZ; clear hZ hQ
    go_wp2_with fail
    refine (rparts_any m1 m2 l2 l5 z1.out z3.out _).mono ?_
    rw [HQ.out]
    rintro e w3 ⟨rfl, hb3⟩
    have HB3 := hide (HB2.out.trans (hb3.mono HB2.out.size)); clear hb3
    go_wp2_with fail
    go_ret2
    exact ⟨ret_ii HZ.out.symm, HB3.out⟩
  · have HZ := hide hZ; clear hZ
    go_wp2_with fail
    refine (rparts_any m1 m2 l2 l5 z1.out z3.out _).mono ?_
    rw [HQ.out]
    rintro e w3 ⟨rfl, hb3⟩
    obtain ⟨hc3, hf3⟩ := bcell hb3
    have hz3 : w2.heap.size < w3.heap.size := by have := hb3.size; simp at this; omega
    have HB3 := hide (HB2.out.trans (hb3.mono HB2.out.size)); clear hb3
    go_wp2_with fail
    refine (rparts_any r1 r2 l3 l6 z2.out z4.out _).mono ?_
    rw [HS.out]
    rintro e w4 ⟨rfl, hb4⟩
    have HB4 := hide (HB3.out.trans (hb4.mono HB3.out.size)); clear hb4
    go_wp2_with fail
    go_ret2
    exact ⟨ret_ii HZ.out.symm, HB4.out⟩

set_option maxHeartbeats 1000000 in
theorem rcompare_any (x y : List UInt8) (w : World) :
    Calls Tryz.prog 7 #[.string ⟨x.toArray⟩, .string ⟨y.toArray⟩] w fun e w' =>
      e = .returned (.tuple #[.int .i64 (Ver.compare x y).1, .int .i64 (Ver.compare x y).2]) ∧ Below w.heap.size w w' := by
  cases hx : Ver.fine x
  · rw [compare_bad1 hx]
    cases hy : Ver.fine y
    all_goals
      go_enter Tryz.func7, Tryz.ntmps7
      go_wp2_with fail
      refine (rver_bad x hx _).mono ?_
      rintro e w1 ⟨E1, M1, R1, rfl, hb1⟩
      have HB1 := hide hb1; clear hb1
      go_wp2_with fail
    · refine (rver_bad y hy _).mono ?_
      rintro e w2 ⟨E2, M2, R2, rfl, hb2⟩
      have HB2 := hide hb2; clear hb2
      go_wp2_with fail
      go_ret2
      exact ⟨rfl, below_next HB1.out HB2.out⟩
    · refine (rver_ok y hy _).mono ?_
      rintro e w2 ⟨rfl, hb2⟩
      have HB2 := hide hb2; clear hb2
      go_wp2_with fail
      go_ret2
      exact ⟨rfl, below_next HB1.out HB2.out⟩
  · cases hy : Ver.fine y
    · rw [compare_bad2 hy]
      go_enter Tryz.func7, Tryz.ntmps7
      go_wp2_with fail
      refine (rver_ok x hx _).mono ?_
      rintro e w1 ⟨rfl, hb1⟩
      have HB1 := hide hb1; clear hb1
      go_wp2_with fail
      refine (rver_bad y hy _).mono ?_
      rintro e w2 ⟨E2, M2, R2, rfl, hb2⟩
      have HB2 := hide hb2; clear hb2
      go_wp2_with fail
      go_ret2
      exact ⟨rfl, below_next HB1.out HB2.out⟩
    · rw [compare_ok hx hy]
      obtain ⟨l1, l2, l3⟩ := split3_len hx
      obtain ⟨l4, l5, l6⟩ := split3_len hy
      obtain ⟨d1, z1, z2⟩ := fine_parts hx
      obtain ⟨d2, z3, z4⟩ := fine_parts hy
      have hv : Ver.cmpV (Ver.split3 x) (Ver.split3 y) = Ver.or3 (Ver.cmpI (Ver.val (Ver.split3 x).e) (Ver.val (Ver.split3 y).e)) (Ver.or3 (Ver.parts 25 (Ver.split3 x).m (Ver.split3 y).m) (Ver.parts 25 (Ver.split3 x).r (Ver.split3 y).r)) := by
        rw [Ver.cmpV, Ver.nums_val d1 d2 l1]
      rw [hv]
      clear hv d1 d2
      exact rcompare_fine x y hx hy _ _ _ _ _ _ rfl rfl rfl rfl rfl rfl l2 l3 l5 l6 z1 z2 z3 z4 w
end Go.Proofs.YtgdmgmklncmanaaGreatDoor
/- The walks over the document's first examples, and over the law itself. -/
namespace Go.Proofs.YtgdmgmklncmanaaGreatDoor
open Go.RowKit

theorem calls_str {P : Program} {f : FuncId} {x y : ByteArray} {w : World} {Q : Ending → World → Prop} (h : Calls P f #[.string x] w Q) (e : x = y) : Calls P f #[.string y] w Q := e ▸ h
theorem num_any (k : Int) (w : World) :
    Calls Tryz.prog 8 #[.int .i64 k] w fun e w' => e = .returned (.int .i64 k) ∧ w' = w := by
  go_enter Tryz.func8, Tryz.ntmps8
  go_wp2
  go_ret
  exact ⟨rfl, rfl⟩

set_option maxRecDepth 100000 in
set_option maxHeartbeats 400000 in
theorem packed_any (mx : Int) (w : World) (hw9 : 9 ≤ w.heap.size) (hm : w.cell? ⟨0, 0, none⟩ = some (.int .i64 mx)) (hK : ∀ i : Nat, i < 64 → w.cell? ⟨3, i, none⟩ = some (.int .u32 (kTab i))) :
    Calls Tryz.prog 5 #[] w fun e w' => e = .returned (.bool true) ∧ Below w.heap.size w w' := by
  have HM := hide hm
  have HK := hide hK
  clear hm hK
  go_enter Tryz.func5, Tryz.ntmps5
  go_wp2_with fail
  refine (compare_any [49, 46, 50] [49, 46, 49, 48] _).mono ?_
  rintro e w1 ⟨he, hb1⟩
  rw [show Ver.compare [49, 46, 50] [49, 46, 49, 48] = (-1, 0) by decide +kernel] at he
  subst he
  go_wp2_with fail
  refine (compare_any [49, 46, 48, 126, 114, 99, 49] [49, 46, 48] _).mono ?_
  rintro e w2 ⟨he, hb2⟩
  rw [show Ver.compare [49, 46, 48, 126, 114, 99, 49] [49, 46, 48] = (-1, 0) by decide +kernel] at he
  subst he
  go_wp2_with fail
  refine (compare_any [49, 58, 48, 46, 57] [50, 46, 48] _).mono ?_
  rintro e w3 ⟨he, hb3⟩
  rw [show Ver.compare [49, 58, 48, 46, 57] [50, 46, 48] = (1, 0) by decide +kernel] at he
  subst he
  go_wp2_with fail
  refine (compare_any [97] [49] _).mono ?_
  rintro e w4 ⟨he, hb4⟩
  rw [show Ver.compare [97] [49] = (0, 2) by decide +kernel] at he
  subst he
  have hb : Below w.heap.size w w4 := ((hb1.trans (hb2.mono hb1.size)).trans (hb3.mono (Nat.le_trans hb1.size hb2.size))).trans (hb4.mono (Nat.le_trans (Nat.le_trans hb1.size hb2.size) hb3.size))
  have HB := hide hb
  clear hb hb1 hb2 hb3 hb4
  go_wp2_with fail
  have hs4 := HB.out.size
  refine (calls_str (tea_ok mx w4 (by omega) ((HB.out.cell (p := ⟨0, 0, none⟩) (by show 0 < w.heap.size; omega)).trans HM.out) (fun i hi => (HB.out.cell (p := ⟨3, i, none⟩) (by show 3 < w.heap.size; omega)).trans (HK.out i hi))) (by kernel_rfl)).mono ?_
  rintro e w5 ⟨o, rfl, hown, hb5⟩
  obtain ⟨g, oc, rfl⟩ := own_form hown (by omega)
  have hg0 : w5.cell? ⟨g, 0, none⟩ = some (.string ⟨teaPath.toArray⟩) := (hown.cellAt 0 (by omega)).trans rfl
  have hgl := (hown.lt g rfl).2
  have HB5 := hide (HB.out.trans (hb5.mono hs4))
  clear hown hb5
  go_wp2_with fail
  have hs5 := HB5.out.size
  have hrow := heap_alloc_new w5 (.cells #[.string ⟨#[116, 101, 97]⟩, .string ⟨#[49, 46, 48]⟩, .int .i64 0, .int .i64 0, .int .i64 0, .int .i64 1, .int .i64 1, .int .i64 0, .slice (some ⟨g, 0, none⟩) 1 oc] 32)
  have hsu : (w5.alloc (.cells #[.string ⟨#[116, 101, 97]⟩, .string ⟨#[49, 46, 48]⟩, .int .i64 0, .int .i64 0, .int .i64 0, .int .i64 1, .int .i64 1, .int .i64 0, .slice (some ⟨g, 0, none⟩) 1 oc] 32)).heap.size = w5.heap.size + 1 := by simp
  have hbu := HB5.out.alloc hs5 (.cells #[.string ⟨#[116, 101, 97]⟩, .string ⟨#[49, 46, 48]⟩, .int .i64 0, .int .i64 0, .int .i64 0, .int .i64 1, .int .i64 1, .int .i64 0, .slice (some ⟨g, 0, none⟩) 1 oc] 32)
  have hgu : (w5.alloc (.cells #[.string ⟨#[116, 101, 97]⟩, .string ⟨#[49, 46, 48]⟩, .int .i64 0, .int .i64 0, .int .i64 0, .int .i64 1, .int .i64 1, .int .i64 0, .slice (some ⟨g, 0, none⟩) 1 oc] 32)).cell? ⟨g, 0, none⟩ = some (.string ⟨#[47, 98, 105, 110, 47, 116, 101, 97]⟩) :=
    (Below.cell ((Below.refl _ w5).alloc (Nat.le_refl _) _) (p := ⟨g, 0, none⟩) hgl).trans hg0
  refine (calls_str (tea_bad mx (w5.alloc (.cells #[.string ⟨#[116, 101, 97]⟩, .string ⟨#[49, 46, 48]⟩, .int .i64 0, .int .i64 0, .int .i64 0, .int .i64 1, .int .i64 1, .int .i64 0, .slice (some ⟨g, 0, none⟩) 1 oc] 32)) (by omega) ((hbu.cell (p := ⟨0, 0, none⟩) (by show 0 < w.heap.size; omega)).trans HM.out) (fun i hi => (hbu.cell (p := ⟨3, i, none⟩) (by show 3 < w.heap.size; omega)).trans (HK.out i hi))) (by kernel_rfl)).mono ?_
  rintro e w6 ⟨rfl, hb6⟩
  have hrow6 := (hb6.block w5.heap.size (by omega)).trans hrow
  have hg6 := (hb6.cell (p := ⟨g, 0, none⟩) (by show g < (w5.alloc _).heap.size; omega)).trans hgu
  have hlA : w5.heap.size < w6.heap.size := (Array.getElem?_eq_some_iff.1 hrow6).1
  have hlg : g < w6.heap.size := by omega
  obtain ⟨v0, v1, v2, v3, v4, v5, v6, v7, v8, -⟩ := nine_all hrow6
  have HB6 := hide (hbu.trans (hb6.mono (by omega)))
  obtain ⟨A, hA⟩ : ∃ A, w5.heap.size = A := ⟨_, rfl⟩
  rw [hA] at hlA v0 v1 v2 v3 v4 v5 v6 v7 v8 ⊢
  simp only [noInfo]
  clear hrow hsu hbu hgu hrow6 hb6 hA hg0 hgl HK HM HB HB5
  have hne1 : ¬ w6.heap.size = A := by omega
  have hne2 : ¬ w6.heap.size = g := by omega
  go_wp2_with fail
  go_ret
  exact ⟨rfl, HB6.out.alloc HB6.out.size _⟩

/-- The comparison turned round. -/
theorem comp_back (a b : List UInt8) : ∃ n f : Int, Ver.compare a b = (n, f) ∧ Ver.compare b a = (-n, f) ∧ (n = -1 ∨ n = 0 ∨ n = 1) ∧ (f = 0 ∨ f = 2) := by
  cases h : Ver.fine a && Ver.fine b
  · have h' : (Ver.fine b && Ver.fine a) = false := by rw [Bool.and_comm]; exact h
    exact ⟨0, 2, by rw [Ver.compare, h]; rfl, by rw [Ver.compare, h']; rfl, .inr (.inl rfl), .inr rfl⟩
  · have h' : (Ver.fine b && Ver.fine a) = true := by rw [Bool.and_comm]; exact h
    exact ⟨Ver.cmpV (Ver.split3 a) (Ver.split3 b), 0, by rw [Ver.compare, h]; rfl, by rw [Ver.compare, h', Ver.ord_cmpV.anti (Ver.split3 a) (Ver.split3 b)]; rfl, Ver.ord_cmpV.r _ _, .inl rfl⟩

set_option maxRecDepth 100000 in
set_option maxHeartbeats 400000 in
theorem compares_any (a b : List UInt8) (mx : Int) (w : World) (hw9 : 9 ≤ w.heap.size) (hm : w.cell? ⟨0, 0, none⟩ = some (.int .i64 mx)) (hK : ∀ i : Nat, i < 64 → w.cell? ⟨3, i, none⟩ = some (.int .u32 (kTab i))) :
    Calls Tryz.prog 3 #[.string ⟨a.toArray⟩, .string ⟨b.toArray⟩] w fun e w' => e = .returned (.bool true) ∧ Below w.heap.size w w' := by
  obtain ⟨n, f, h1, h2, hn, hf⟩ := comp_back a b
  have H1 := hide h1
  have H2 := hide h2
  have HP := hide (packed_any mx w hw9 hm hK)
  clear h1 h2 hm hK
  go_enter Tryz.func3, Tryz.ntmps3
  go_wp2_with fail
  refine HP.out.mono ?_
  rintro e w1 ⟨rfl, hb1⟩
  go_wp2_with fail
  refine (compare_any a b _).mono ?_
  rintro e w2 ⟨he, hb2⟩
  rw [H1.out] at he
  subst he
  go_wp2_with fail
  refine (rcompare_any a b _).mono ?_
  rintro e w3 ⟨he, hb3⟩
  rw [H1.out] at he
  subst he
  go_wp2_with fail
  refine (compare_any b a _).mono ?_
  rintro e w4 ⟨he, hb4⟩
  rw [H2.out] at he
  subst he
  have HB := hide (((hb1.trans (hb2.mono hb1.size)).trans (hb3.mono (Nat.le_trans hb1.size hb2.size))).trans (hb4.mono (Nat.le_trans (Nat.le_trans hb1.size hb2.size) hb3.size)))
  clear hb1 hb2 hb3 hb4 H1 H2 HP
  rcases hn with rfl | rfl | rfl <;> rcases hf with rfl | rfl
  all_goals
    go_wp2_with (go_at_call 8; refine (num_any _ _).mono ?_; rintro e w5 ⟨rfl, rfl⟩)
    go_ret
    exact ⟨rfl, HB.out⟩
end Go.Proofs.YtgdmgmklncmanaaGreatDoor
/- What the document's own reading of an archive says, as plain mathematics: its commands, its lines, its contents. -/
namespace Go.Proofs.YtgdmgmklncmanaaGreatDoor
namespace Arc

/-! ### Commands -/
structure RCmd where
  verb : S
  path : S
  to : S
  word : S
def RCmd.zero : RCmd := ⟨[], [], [], []⟩
def rcmd (woken : Bool) : List S → RCmd × Bool
  | v :: p :: rest =>
    if vb v = 1 ∨ vb v = 2 then match rest with
      | [q] => (⟨v, p, [], q⟩, Wd.isPath p && Wd.isWord q && Wd.under p)
      | _ => (⟨v, p, [], []⟩, false)
    else if vb v = 3 then match rest with
      | [q] => (⟨v, p, q, []⟩, Wd.isPath p && Wd.isPath q && Wd.under q)
      | _ => (⟨v, p, [], []⟩, false)
    else if vb v = 4 then match rest with
      | [] => (⟨v, p, [], []⟩, Wd.isPath p && Wd.under p)
      | _ => (⟨v, p, [], []⟩, false)
    else if vb v = 5 then match rest with
      | [] => (⟨v, p, [], []⟩, woken && (Wd.isPath p && Wd.under p))
      | _ => (⟨v, p, [], []⟩, false)
    else (⟨v, p, [], []⟩, false)
  | _ => (.zero, false)
/-- The same command, as the program keeps it. -/
def RCmd.kept (c : RCmd) : Cmd := if vb c.verb = 3 then ⟨3, c.to, [], c.path⟩ else ⟨vb c.verb, c.path, c.word, []⟩

theorem rcmd_pcmd (ws : List S) (woken : Bool) : (rcmd woken ws).2 = ((pcmd ws).2 && (woken || (pcmd ws).1.verb != 5)) ∧ ((pcmd ws).2 = true → (rcmd woken ws).1.kept = (pcmd ws).1) := by
  match ws with
  | [] => simp [rcmd, pcmd]
  | [v] => simp [rcmd, pcmd]
  | v :: p :: rest =>
    have hb : 0 ≤ vb v ∧ vb v ≤ 5 := by unfold vb; repeat' split <;> omega
    rcases (show vb v = 0 ∨ vb v = 1 ∨ vb v = 2 ∨ vb v = 3 ∨ vb v = 4 ∨ vb v = 5 from by omega) with h | h | h | h | h | h
    · simp [rcmd, pcmd, h]
    · match rest with
      | [] => simp [rcmd, pcmd, h]
      | [q] =>
        cases ha : Wd.isWord q <;> cases hb : Wd.isPath p <;> cases hc : Wd.under p <;> simp [rcmd, pcmd, h, ha, hb, hc, Wd.isVar, RCmd.kept]
      | a :: b :: l => simp [rcmd, pcmd, h]
    · match rest with
      | [] => simp [rcmd, pcmd, h]
      | [q] =>
        cases ha : Wd.isWord q <;> cases hb : Wd.isPath p <;> cases hc : Wd.under p <;> simp [rcmd, pcmd, h, ha, hb, hc, Wd.isVar, RCmd.kept]
      | a :: b :: l => simp [rcmd, pcmd, h]
    · match rest with
      | [] => simp [rcmd, pcmd, h]
      | [q] =>
        cases ha : Wd.isPath q <;> cases hb : Wd.isPath p <;> cases hc : Wd.under q <;> simp [rcmd, pcmd, h, ha, hb, hc, Wd.isVar, RCmd.kept]
      | a :: b :: l => simp [rcmd, pcmd, h]
    · match rest with
      | [] => cases hb : Wd.isPath p <;> cases hc : Wd.under p <;> simp [rcmd, pcmd, h, hb, hc, Wd.isVar, RCmd.kept]
      | a :: l => simp [rcmd, pcmd, h]
    · match rest with
      | [] => cases hb : Wd.isPath p <;> cases hc : Wd.under p <;> cases woken <;> simp [rcmd, pcmd, h, hb, hc, Wd.isVar, RCmd.kept]
      | a :: l => simp [rcmd, pcmd, h]

/-! ### Lines -/
structure RSt where
  name : S
  version : S
  needs : List (S × S)
  breaks : List S
  wakes : List S
  files : List (S × Int × S)
  runs : List RCmd
  wokens : List RCmd
def RSt.zero : RSt := ⟨[], [], [], [], [], [], [], []⟩
/-- One line more, in words. -/
def rline (st : RSt) (ws : List S) : Option RSt :=
  if rkd ws.head! = 0 then (if ws.tail = [[49]] then some st else none)
  else if rkd ws.head! = 1 then match ws.tail with
    | [n] => if Wd.isName n then some { st with name := n } else none
    | _ => none
  else if rkd ws.head! = 2 then match ws.tail with
    | [v] => if Ver.fine v then some { st with version := v } else none
    | _ => none
  else if rkd ws.head! = 3 then match ws.tail with
    | [n] => if Wd.isName n then some { st with needs := st.needs ++ [(n, [])] } else none
    | [n, v] => if Wd.isName n && Ver.fine v then some { st with needs := st.needs ++ [(n, v)] } else none
    | _ => none
  else if rkd ws.head! = 4 then match ws.tail with
    | [n] => if Wd.isName n then some { st with breaks := st.breaks ++ [n] } else none
    | _ => none
  else if rkd ws.head! = 5 then match ws.tail with
    | [p] => if Wd.isPath p then some { st with wakes := st.wakes ++ [p] } else none
    | _ => none
  else if rkd ws.head! = 6 then match ws.tail with
    | [p, z, h] => if Wd.isPath p = true ∧ Wd.under p = false ∧ 0 ≤ sz z ∧ (st.files.any fun f => f.1 == p) = false then some { st with files := st.files ++ [(p, sz z, h)] } else none
    | _ => none
  else if rkd ws.head! = 7 then (if (rcmd false ws.tail).2 = true then some { st with runs := st.runs ++ [(rcmd false ws.tail).1] } else none)
  else if rkd ws.head! = 8 then (if (rcmd true ws.tail).2 = true then some { st with wokens := st.wokens ++ [(rcmd true ws.tail).1] } else none)
  else none
/-- May a line of kind k stand behind one of kind last? -/
abbrev rbad (k last : Int) : Prop := k < last ∨ (k = last ∧ k < 3) ∨ (k > last + 1 ∧ last < 2)
def rfold (st : RSt) (last : Int) : List S → Option (RSt × Int)
  | [] => some (st, last)
  | l :: ls => match rline st (sp 32 l) with
    | none => none
    | some st' => if rbad (rkd (sp 32 l).head!) last then none else rfold st' (rkd (sp 32 l).head!) ls

/-- The lines up to the first empty one, behind the bytes cur of the present line; what stands behind it. -/
def rcut (cur : S) : S → Option (List S × S)
  | [] => none
  | c :: l => if c = 10 then (if cur = [] then some ([], l) else (rcut [] l).map fun r => (cur :: r.1, r.2)) else rcut (cur ++ [c]) l

variable (short : S → S)
/-- The contents of files, one behind the other, each by its hash; what is left. -/
def eat : List (S × Int × S) → S → Option (List (S × S) × S)
  | [], c => some ([], c)
  | f :: fs, c => if f.2.1 ≤ c.length ∧ short (c.take f.2.1.toNat) = f.2.2 then (eat fs (c.drop f.2.1.toNat)).map fun r => ((f.1, c.take f.2.1.toNat) :: r.1, r.2) else none
/-- All of it. -/
def rread (x : S) : Option (RSt × List (S × S)) :=
  if 2000 < x.length then none else
  match rcut [] x with
  | none => none
  | some (ls, c) => match rfold .zero (-1) ls with
    | none => none
    | some (st, last) => if last < 2 ∨ 24 < ls.length then none else match eat short st.files c with
      | none => none
      | some (F, left) => if left = [] then some (st, F) else none

/-! ### Both readings are one: cutting into lines -/
def join (cur : S) (h : S) : List S := match sp 10 h with
  | [] => [cur]
  | a :: l => (cur ++ a) :: l
theorem join_nil (cur : S) : join cur [] = [cur] := by simp [join, sp]
theorem join_ten (cur h : S) : join cur (10 :: h) = cur :: sp 10 h := by simp [join, sp]
theorem join_one (cur h : S) (d : UInt8) (hd : d ≠ 10) : join cur (d :: h) = join (cur ++ [d]) h := by
  have := sp_ne 10 h
  cases e : sp 10 h with
  | nil => exact absurd e this
  | cons a l => simp [join, sp, hd, e]
theorem join_empty (h : S) : join [] h = sp 10 h := by
  have := sp_ne 10 h
  cases e : sp 10 h with
  | nil => exact absurd e this
  | cons a l => simp [join, e]
theorem cutTwo_one (d : UInt8) (l : S) (hd : d ≠ 10) : cutTwo (d :: l) = (cutTwo l).map fun r => (d :: r.1, r.2) := by
  conv => lhs; unfold cutTwo
  split
  · rename_i h; exact absurd rfl hd
  · cases cutTwo l <;> rfl
theorem cutTwo_ten (e : UInt8) (l : S) (he : e ≠ 10) : cutTwo (10 :: e :: l) = (cutTwo (e :: l)).map fun r => (10 :: r.1, r.2) := by
  conv => lhs; unfold cutTwo
  split
  · rename_i h; simp at h; exact absurd h.1 he
  · cases cutTwo (e :: l) <;> rfl
theorem rcut_cutTwo : ∀ (x : S) (cur : S), cur ≠ [] → rcut cur x = (cutTwo x).map fun r => (join cur r.1, r.2)
  | [], cur, _ => rfl
  | c :: l, cur, hc => by
    by_cases h : c = 10
    · subst h
      rw [rcut, if_pos rfl, if_neg hc]
      match l with
      | [] => rfl
      | e :: v =>
        by_cases he : e = 10
        · subst he
          rw [rcut, if_pos rfl, if_pos rfl]
          show some ([cur], v) = (cutTwo (10 :: 10 :: v)).map _
          rw [show cutTwo (10 :: 10 :: v) = some ([], v) from by unfold cutTwo; rfl]
          simp [join_nil]
        · rw [rcut, if_neg he, List.nil_append, rcut_cutTwo v [e] (by simp), cutTwo_ten e v he, cutTwo_one e v he]
          cases cutTwo v with
          | none => rfl
          | some r =>
            have e1 : join [e] r.1 = sp 10 (e :: r.1) := by rw [← join_empty (e :: r.1), join_one [] r.1 e he]; rfl
            simp [join_ten, e1]
    · rw [rcut, if_neg h, rcut_cutTwo l (cur ++ [c]) (by simp), cutTwo_one c l h]
      cases cutTwo l with
      | none => rfl
      | some r => simp [join_one cur r.1 c h]
/-- A text that does not begin with an end of line: one cutting gives what the other gives. -/
theorem rcut_whole (c : UInt8) (l : S) (h : c ≠ 10) : rcut [] (c :: l) = (cutTwo (c :: l)).map fun r => (sp 10 r.1, r.2) := by
  rw [rcut, if_neg h, List.nil_append, rcut_cutTwo l [c] (by simp), cutTwo_one c l h]
  cases cutTwo l with
  | none => rfl
  | some r => simp [← join_empty (c :: r.1), join_one [] r.1 c h]
theorem cutTwo_head (x head c : S) (h : cutTwo (10 :: x) = some (head, c)) : (sp 10 head).head? = some [] := by
  match x with
  | [] => simp [cutTwo] at h
  | e :: v =>
    by_cases he : e = 10
    · subst he
      rw [show cutTwo (10 :: 10 :: v) = some ([], v) from by unfold cutTwo; rfl] at h
      simp at h
      obtain ⟨rfl, rfl⟩ := h
      rfl
    · rw [cutTwo_ten e v he] at h
      cases hc : cutTwo (e :: v) with
      | none => rw [hc] at h; simp at h
      | some r => rw [hc] at h; simp at h; rw [← h.1]; simp [sp]
end Arc
end Go.Proofs.YtgdmgmklncmanaaGreatDoor
