/- The walks over the document's first examples, and over the law itself. -/
import Derived.Test.YtgdmgmklncmanaaGreatDoorTeaW1
import Derived.Test.YtgdmgmklncmanaaGreatDoorVerW9
import Derived.Test.YtgdmgmklncmanaaGreatDoorRefW6
namespace Go.Proofs.YtgdmgmklncmanaaGreatDoor
open Go.RowKit

theorem calls_str {P : Program} {f : FuncId} {x y : ByteArray} {w : World} {Q : Ending → World → Prop} (h : Calls P f #[.string x] w Q) (e : x = y) : Calls P f #[.string y] w Q := e ▸ h
theorem num_any (k : Int) (w : World) :
    Calls Tryz.prog 8 #[.int .i64 k] w fun e w' => e = .returned (.int .i64 k) ∧ w' = w := by
  go_enter Tryz.func8, Tryz.ntmps8
  go_wp2
  go_ret
  exact ⟨rfl, rfl⟩

set_option maxRecDepth 100000 in
set_option maxHeartbeats 400000 in
theorem packed_any (mx : Int) (w : World) (hw9 : 9 ≤ w.heap.size) (hm : w.cell? ⟨0, 0, none⟩ = some (.int .i64 mx)) (hK : ∀ i : Nat, i < 64 → w.cell? ⟨3, i, none⟩ = some (.int .u32 (kTab i))) :
    Calls Tryz.prog 5 #[] w fun e w' => e = .returned (.bool true) ∧ Below w.heap.size w w' := by
  have HM := hide hm
  have HK := hide hK
  clear hm hK
  go_enter Tryz.func5, Tryz.ntmps5
  go_wp2_with fail
  refine (compare_any [49, 46, 50] [49, 46, 49, 48] _).mono ?_
  rintro e w1 ⟨he, hb1⟩
  rw [show Ver.compare [49, 46, 50] [49, 46, 49, 48] = (-1, 0) by decide +kernel] at he
  subst he
  go_wp2_with fail
  refine (compare_any [49, 46, 48, 126, 114, 99, 49] [49, 46, 48] _).mono ?_
  rintro e w2 ⟨he, hb2⟩
  rw [show Ver.compare [49, 46, 48, 126, 114, 99, 49] [49, 46, 48] = (-1, 0) by decide +kernel] at he
  subst he
  go_wp2_with fail
  refine (compare_any [49, 58, 48, 46, 57] [50, 46, 48] _).mono ?_
  rintro e w3 ⟨he, hb3⟩
  rw [show Ver.compare [49, 58, 48, 46, 57] [50, 46, 48] = (1, 0) by decide +kernel] at he
  subst he
  go_wp2_with fail
  refine (compare_any [97] [49] _).mono ?_
  rintro e w4 ⟨he, hb4⟩
  rw [show Ver.compare [97] [49] = (0, 2) by decide +kernel] at he
  subst he
  have hb : Below w.heap.size w w4 := ((hb1.trans (hb2.mono hb1.size)).trans (hb3.mono (Nat.le_trans hb1.size hb2.size))).trans (hb4.mono (Nat.le_trans (Nat.le_trans hb1.size hb2.size) hb3.size))
  have HB := hide hb
  clear hb hb1 hb2 hb3 hb4
  go_wp2_with fail
  have hs4 := HB.out.size
  refine (calls_str (tea_ok mx w4 (by omega) ((HB.out.cell (p := ⟨0, 0, none⟩) (by show 0 < w.heap.size; omega)).trans HM.out) (fun i hi => (HB.out.cell (p := ⟨3, i, none⟩) (by show 3 < w.heap.size; omega)).trans (HK.out i hi))) (by kernel_rfl)).mono ?_
  rintro e w5 ⟨o, rfl, hown, hb5⟩
  obtain ⟨g, oc, rfl⟩ := own_form hown (by omega)
  have hg0 : w5.cell? ⟨g, 0, none⟩ = some (.string ⟨teaPath.toArray⟩) := (hown.cellAt 0 (by omega)).trans rfl
  have hgl := (hown.lt g rfl).2
  have HB5 := hide (HB.out.trans (hb5.mono hs4))
  clear hown hb5
  go_wp2_with fail
  have hs5 := HB5.out.size
  have hrow := heap_alloc_new w5 (.cells #[.string ⟨#[116, 101, 97]⟩, .string ⟨#[49, 46, 48]⟩, .int .i64 0, .int .i64 0, .int .i64 0, .int .i64 1, .int .i64 1, .int .i64 0, .slice (some ⟨g, 0, none⟩) 1 oc] 32)
  have hsu : (w5.alloc (.cells #[.string ⟨#[116, 101, 97]⟩, .string ⟨#[49, 46, 48]⟩, .int .i64 0, .int .i64 0, .int .i64 0, .int .i64 1, .int .i64 1, .int .i64 0, .slice (some ⟨g, 0, none⟩) 1 oc] 32)).heap.size = w5.heap.size + 1 := by simp
  have hbu := HB5.out.alloc hs5 (.cells #[.string ⟨#[116, 101, 97]⟩, .string ⟨#[49, 46, 48]⟩, .int .i64 0, .int .i64 0, .int .i64 0, .int .i64 1, .int .i64 1, .int .i64 0, .slice (some ⟨g, 0, none⟩) 1 oc] 32)
  have hgu : (w5.alloc (.cells #[.string ⟨#[116, 101, 97]⟩, .string ⟨#[49, 46, 48]⟩, .int .i64 0, .int .i64 0, .int .i64 0, .int .i64 1, .int .i64 1, .int .i64 0, .slice (some ⟨g, 0, none⟩) 1 oc] 32)).cell? ⟨g, 0, none⟩ = some (.string ⟨#[47, 98, 105, 110, 47, 116, 101, 97]⟩) :=
    (Below.cell ((Below.refl _ w5).alloc (Nat.le_refl _) _) (p := ⟨g, 0, none⟩) hgl).trans hg0
  refine (calls_str (tea_bad mx (w5.alloc (.cells #[.string ⟨#[116, 101, 97]⟩, .string ⟨#[49, 46, 48]⟩, .int .i64 0, .int .i64 0, .int .i64 0, .int .i64 1, .int .i64 1, .int .i64 0, .slice (some ⟨g, 0, none⟩) 1 oc] 32)) (by omega) ((hbu.cell (p := ⟨0, 0, none⟩) (by show 0 < w.heap.size; omega)).trans HM.out) (fun i hi => (hbu.cell (p := ⟨3, i, none⟩) (by show 3 < w.heap.size; omega)).trans (HK.out i hi))) (by kernel_rfl)).mono ?_
  rintro e w6 ⟨rfl, hb6⟩
  have hrow6 := (hb6.block w5.heap.size (by omega)).trans hrow
  have hg6 := (hb6.cell (p := ⟨g, 0, none⟩) (by show g < (w5.alloc _).heap.size; omega)).trans hgu
  have hlA : w5.heap.size < w6.heap.size := (Array.getElem?_eq_some_iff.1 hrow6).1
  have hlg : g < w6.heap.size := by omega
  obtain ⟨v0, v1, v2, v3, v4, v5, v6, v7, v8, -⟩ := nine_all hrow6
  have HB6 := hide (hbu.trans (hb6.mono (by omega)))
  obtain ⟨A, hA⟩ : ∃ A, w5.heap.size = A := ⟨_, rfl⟩
  rw [hA] at hlA v0 v1 v2 v3 v4 v5 v6 v7 v8 ⊢
  simp only [noInfo]
  clear hrow hsu hbu hgu hrow6 hb6 hA hg0 hgl HK HM HB HB5
  have hne1 : ¬ w6.heap.size = A := by omega
  have hne2 : ¬ w6.heap.size = g := by omega
  go_wp2_with fail
  go_ret
  exact ⟨rfl, HB6.out.alloc HB6.out.size _⟩

/-- The comparison turned round. -/
theorem comp_back (a b : List UInt8) : ∃ n f : Int, Ver.compare a b = (n, f) ∧ Ver.compare b a = (-n, f) ∧ (n = -1 ∨ n = 0 ∨ n = 1) ∧ (f = 0 ∨ f = 2) := by
  cases h : Ver.fine a && Ver.fine b
  · have h' : (Ver.fine b && Ver.fine a) = false := by rw [Bool.and_comm]; exact h
    exact ⟨0, 2, by rw [Ver.compare, h]; rfl, by rw [Ver.compare, h']; rfl, .inr (.inl rfl), .inr rfl⟩
  · have h' : (Ver.fine b && Ver.fine a) = true := by rw [Bool.and_comm]; exact h
    exact ⟨Ver.cmpV (Ver.split3 a) (Ver.split3 b), 0, by rw [Ver.compare, h]; rfl, by rw [Ver.compare, h', Ver.ord_cmpV.anti (Ver.split3 a) (Ver.split3 b)]; rfl, Ver.ord_cmpV.r _ _, .inl rfl⟩

set_option maxRecDepth 100000 in
set_option maxHeartbeats 400000 in
theorem compares_any (a b : List UInt8) (mx : Int) (w : World) (hw9 : 9 ≤ w.heap.size) (hm : w.cell? ⟨0, 0, none⟩ = some (.int .i64 mx)) (hK : ∀ i : Nat, i < 64 → w.cell? ⟨3, i, none⟩ = some (.int .u32 (kTab i))) :
    Calls Tryz.prog 3 #[.string ⟨a.toArray⟩, .string ⟨b.toArray⟩] w fun e w' => e = .returned (.bool true) ∧ Below w.heap.size w w' := by
  obtain ⟨n, f, h1, h2, hn, hf⟩ := comp_back a b
  have H1 := hide h1
  have H2 := hide h2
  have HP := hide (packed_any mx w hw9 hm hK)
  clear h1 h2 hm hK
  go_enter Tryz.func3, Tryz.ntmps3
  go_wp2_with fail
  refine HP.out.mono ?_
  rintro e w1 ⟨rfl, hb1⟩
  go_wp2_with fail
  refine (compare_any a b _).mono ?_
  rintro e w2 ⟨he, hb2⟩
  rw [H1.out] at he
  subst he
  go_wp2_with fail
  refine (rcompare_any a b _).mono ?_
  rintro e w3 ⟨he, hb3⟩
  rw [H1.out] at he
  subst he
  go_wp2_with fail
  refine (compare_any b a _).mono ?_
  rintro e w4 ⟨he, hb4⟩
  rw [H2.out] at he
  subst he
  have HB := hide (((hb1.trans (hb2.mono hb1.size)).trans (hb3.mono (Nat.le_trans hb1.size hb2.size))).trans (hb4.mono (Nat.le_trans (Nat.le_trans hb1.size hb2.size) hb3.size)))
  clear hb1 hb2 hb3 hb4 H1 H2 HP
  rcases hn with rfl | rfl | rfl <;> rcases hf with rfl | rfl
  all_goals
    go_wp2_with (go_at_call 8; refine (num_any _ _).mono ?_; rintro e w5 ⟨rfl, rfl⟩)
    go_ret
    exact ⟨rfl, HB.out⟩
end Go.Proofs.YtgdmgmklncmanaaGreatDoor
