/- Of Ins: InsW6, InsW5. -/
import Derived.Test.YtgdmgmklncmanaaGreatDoorIns37
import Derived.Deep.RegionHeld3
/- The walk over a list that is its caller's, who writes it full. -/
namespace Go.Proofs.YtgdmgmklncmanaaGreatDoor
open Go.RowKit

/-- The blocks that it writes. -/
def Feet (wb : Nat) (l : Value) (k : Nat) : Prop := k = wb ∨ l.ownBlock = some k

set_option maxRecDepth 100000 in
set_option maxHeartbeats 3000000 in
set_option linter.unusedSimpArgs false in
theorem strings_any (wb base n : Nat) (a0 a1 l : Value) (xs : List Value) (hn : n ≤ 1000) (w : World) (hne : l.ownBlock ≠ some wb)
    (hW : WB wb a0 a1 (.int .i64 0) (.slice none 0 0) w) (hl : w.ownsRow base 9 1 l n xs) :
    Calls Tryz.prog 11 #[.pointer (some ⟨wb, 0, none⟩), l] w fun e w' => ∃ u va vb vc kb kc, e = .returned u ∧ Marked mkV l n w' ∧ Marked mkV va (n + 1) w' ∧ Marked mkV vb (n + 2) w' ∧ Marked mkV vc (n + 3) w' ∧ w'.ownsRow (wb + 1) 85 4 (.slice (some ⟨kb, 0, none⟩) 4 kc) 4 (keptV l ++ keptV va ++ keptV vb ++ keptV vc) ∧ WB wb a0 a1 (.int .i64 1) (.slice (some ⟨kb, 0, none⟩) 4 kc) w' ∧ Far w.heap.size (Feet wb l) w w' := by
  obtain ⟨j0, ji, jz0, jz1, jz2⟩ := info_three info_kept
  obtain ⟨i0, hi, hz0, hz1, hz2⟩ := info_parts' info_str
  have q2 := row_cell hW 2
  have f2 := row_free hW 2
  obtain ⟨ao, cl, rfl⟩ := slice_form hl
  have hxl : xs.length = n := by have := hl.1; omega
  have hW1 : WB wb a0 a1 (.int .i64 1) (.slice none 0 0) (w.setCell ⟨wb, 2, none⟩ (.int .i64 1)) := heap_setCell_same _ wb 2 _ _ (Value.int .i64 1) hW
  have r2 := row_cell hW1 2
  have r3 := row_cell hW1 3
  have HW1 := hide hW1
  have HL1 := hide (own_far (g := wb) (i := 2) (u := .int .i64 1) hl hne)
  have HB1 := hide ((Far.refl w.heap.size (Feet wb (.slice ao n cl)) w).setCell (p := ⟨wb, 2, none⟩) (.inr (.inl rfl)) (.int .i64 1))
  have hwl := lt_of_block hW
  have hsz : (w.setCell ⟨wb, 2, none⟩ (.int .i64 1)).heap.size = w.heap.size := by simp
  have HX := hide hxl
  have HNE := hide hne
  clear hW1 hl hW hxl hne
  obtain ⟨mk, hM⟩ : ∃ mk, mk1 = mk := ⟨_, rfl⟩
  have HM := hide hM
  go_enter Tryz.func11, Tryz.ntmps11
  go_wp2_with (first
    | (go_at_call 26; refine (mark_any _).mono ?_; rintro e w1 ⟨he, hb1⟩; rw [hM] at he; subst he; have HW2 : Hid (WB wb a0 a1 (.int .i64 1) (.slice none 0 0) w1) := hide ((hb1.block wb (by rw [hsz]; omega)).trans HW1.out); have HL2 := hide (own_below HL1.out hb1); have HB2 := hide (HB1.out.below hb1 (by rw [hsz]; omega)); have hs1 : w.heap.size ≤ w1.heap.size := (by have := hb1.size; rw [hsz] at this; exact this); clear hb1))
  clear r2 r3 q2 f2 HW1 HL1 HB1 hM
  go_loopw [5] (fun i wr => ∃ k : Nat, k ≤ n ∧ i = .int .i64 (k : Int) ∧ Hid (wr.ownsRow base 9 1 (.slice ao n cl) n (List.replicate k (Value.string ⟨mk.toArray⟩) ++ xs.drop k)) ∧ Hid (WB wb a0 a1 (.int .i64 1) (.slice none 0 0) wr) ∧ Hid (Far w.heap.size (Feet wb (.slice ao n cl)) w wr) ∧ w.heap.size ≤ wr.heap.size) (fun i _ => n - (intOf i).toNat)
  case atStart => exact ⟨0, by omega, rfl, hide (by simpa using HL2.out), HW2, HB2, hs1⟩
  case round =>
    clear HL2 HW2 HB2 hs1
    obtain ⟨k, hk, rfl, HL, HW, HB, hs⟩ := hrel
    by_cases hlt : k < n
    · have b1 : (k : Int) < (n : Int) := by omega
      obtain ⟨g, cap, hv⟩ := own_form HL.out (by omega)
      cases hv
      have hkl : k < xs.length := by rw [HX.out]; exact hlt
      have d1 : wr.cell? ⟨g, k, none⟩ = some (xs[k]'hkl) := by rw [HL.out.cellAt k (by omega), List.getElem?_append_right (by simp), List.length_replicate, Nat.sub_self, List.getElem?_drop, Nat.add_zero, List.getElem?_eq_getElem hkl]
      have e1 := HL.out.frozenAt k
      have hg : ¬ wb = g := fun e => HNE.out (by rw [e]; rfl)
      have HLN := hide (own_set HL.out k (.string ⟨mk.toArray⟩))
      rw [set_mark _ k xs hkl] at HLN
      have HWN : Hid (WB wb a0 a1 (.int .i64 1) (.slice none 0 0) (wr.setCell ⟨g, k, none⟩ (.string ⟨mk.toArray⟩))) := hide (by unfold WB; rw [Below.heap_setCell _ _ _ _ (by show wb ≠ g; exact hg)]; exact HW.out)
      have HBN := hide (HB.out.setCell (p := ⟨g, k, none⟩) (.inr (.inr rfl)) (.string ⟨mk.toArray⟩))
      go_wp2_with fail
      exact ⟨⟨k + 1, by omega, by go_num, HLN, HWN, HBN, by simpa using hs⟩, by simp [intOf]; omega⟩
    · obtain rfl : k = n := by omega
      have b1 : ¬ (k : Int) < (k : Int) := by omega
      have HR : Hid (wr.ownsRow base 9 1 (.slice ao k cl) k (List.replicate k (Value.string ⟨mk.toArray⟩))) := hide (by have := HL.out; rw [List.drop_of_length_le (by have := HX.out; omega), List.append_nil] at this; exact this)
      clear HL
      go_wp2_with (first
        | (at_builtin; refine wpList_append_M _ rfl _ _ 30 rfl base 9 i0 (.string ByteArray.empty) Tryz.underlying30 hi hz0 hz1 hz2 (.string ⟨mk.toArray⟩) rfl (.slice ao k cl) k hn rfl (HR.out.alloc _) ⟨wr.heap.size, 0, none⟩ 1 1 rfl (by omega) (by omega) (marks_new _ _ 1 _ _ rfl) ?_; intro v' wA ho2 hma2 hka2 hga2; obtain ⟨aoA, ca, rfl, hx2⟩ := id hma2; have HRwA := hide ho2; have HMwA := hide hma2; have HKwA := hide ((Keeps.below (M := .string ⟨mk.toArray⟩) ((Below.refl _ wr).alloc (Nat.le_refl _) _)).trans hka2); have HWwA := hide ((HW.out.alloc (.cells #[.string ⟨mk.toArray⟩] 9)).grownNe hga2 HNE.out); have HBwA := hide ((HB.out.alloc (by omega) (.cells #[.string ⟨mk.toArray⟩] 9)).grown hga2 (by simp; omega) (fun q hq => .inr (.inr hq))); have hswA : w.heap.size ≤ wA.heap.size := (by have := hga2.size; simp at this; omega); clear ho2 hma2 hka2 hga2 hx2)
        | (at_builtin; refine wpList_append_M _ rfl _ _ 30 rfl base 9 i0 (.string ByteArray.empty) Tryz.underlying30 hi hz0 hz1 hz2 (.string ⟨mk.toArray⟩) rfl (.slice ao k cl) k hn rfl (HRwA.out.alloc _) ⟨wA.heap.size, 0, none⟩ 2 2 rfl (by omega) (by omega) (marks_new _ _ 2 _ _ rfl) ?_; intro v' wB ho2 hma2 hka2 hga2; obtain ⟨aoB, cb, rfl, hx2⟩ := id hma2; have HRwB := hide ho2; have HMwB := hide hma2; have HKwB := hide ((Keeps.below (M := .string ⟨mk.toArray⟩) ((Below.refl _ wA).alloc (Nat.le_refl _) _)).trans hka2); have HWwB := hide ((HWwA.out.alloc (.cells #[.string ⟨mk.toArray⟩, .string ⟨mk.toArray⟩] 9)).grownNe hga2 HNE.out); have HBwB := hide ((HBwA.out.alloc (by omega) (.cells #[.string ⟨mk.toArray⟩, .string ⟨mk.toArray⟩] 9)).grown hga2 (by simp; omega) (fun q hq => .inr (.inr hq))); have hswB : w.heap.size ≤ wB.heap.size := (by have := hga2.size; simp at this; omega); clear ho2 hma2 hka2 hga2 hx2)
        | (at_builtin; refine wpList_append_M _ rfl _ _ 30 rfl base 9 i0 (.string ByteArray.empty) Tryz.underlying30 hi hz0 hz1 hz2 (.string ⟨mk.toArray⟩) rfl (.slice ao k cl) k hn rfl (HRwB.out.alloc _) ⟨wB.heap.size, 0, none⟩ 3 3 rfl (by omega) (by omega) (marks_new _ _ 3 _ _ rfl) ?_; intro v' wC ho2 hma2 hka2 hga2; obtain ⟨aoC, cc, rfl, hx2⟩ := id hma2; have HRwC := hide ho2; have HMwC := hide hma2; have HKwC := hide ((Keeps.below (M := .string ⟨mk.toArray⟩) ((Below.refl _ wB).alloc (Nat.le_refl _) _)).trans hka2); have HWwC := hide ((HWwB.out.alloc (.cells #[.string ⟨mk.toArray⟩, .string ⟨mk.toArray⟩, .string ⟨mk.toArray⟩] 9)).grownNe hga2 HNE.out); have HBwC := hide ((HBwB.out.alloc (by omega) (.cells #[.string ⟨mk.toArray⟩, .string ⟨mk.toArray⟩, .string ⟨mk.toArray⟩] 9)).grown hga2 (by simp; omega) (fun q hq => .inr (.inr hq))); have hswC : w.heap.size ≤ wC.heap.size := (by have := hga2.size; simp at this; omega); clear ho2 hma2 hka2 hga2 hx2))
      have q2 := (row_cell HWwC.out 2).trans (show _ = some (.int .i64 1) from rfl)
      have q3 := (row_cell HWwC.out 3).trans (show _ = some (.slice none 0 0) from rfl)
      have f3 := row_free HWwC.out 3
      have hwc : wb < wC.heap.size := lt_of_block HWwC.out
      have hnq : ¬ wb = wC.heap.size := by omega
      have hnw : ∀ j u, (keptV (.slice ao k cl) ++ keptV (.slice aoA (k + 1) ca) ++ keptV (.slice aoB (k + 2) cb) ++ keptV (.slice aoC (k + 3) cc))[j]? = some u → ((wC.alloc (.cells #[.int .i64 1, .slice ao k cl, .slice none 0 0, .slice none 0 0, .int .i64 1, .slice aoA (k + 1) ca, .slice none 0 0, .slice none 0 0, .int .i64 1, .slice aoB (k + 2) cb, .slice none 0 0, .slice none 0 0, .int .i64 1, .slice aoC (k + 3) cc, .slice none 0 0, .slice none 0 0] 85)).drew).cell? ((⟨wC.heap.size, 0, none⟩ : Addr).add j) = some u := fun j u hu => by
        show (wC.alloc (.cells #[.int .i64 1, .slice ao k cl, .slice none 0 0, .slice none 0 0, .int .i64 1, .slice aoA (k + 1) ca, .slice none 0 0, .slice none 0 0, .int .i64 1, .slice aoB (k + 2) cb, .slice none 0 0, .slice none 0 0, .int .i64 1, .slice aoC (k + 3) cc, .slice none 0 0, .slice none 0 0] 85)).cell? _ = _
        exact row_new wC _ _ _ rfl j u hu
      have HNW := hide hnw
      have hba : wb + 1 ≤ ((wC.alloc (.cells #[.int .i64 1, .slice ao k cl, .slice none 0 0, .slice none 0 0, .int .i64 1, .slice aoA (k + 1) ca, .slice none 0 0, .slice none 0 0, .int .i64 1, .slice aoB (k + 2) cb, .slice none 0 0, .slice none 0 0, .int .i64 1, .slice aoC (k + 3) cc, .slice none 0 0, .slice none 0 0] 85)).drew).heap.size := by simp; omega
      clear hnw
      refine wp_region_noPanic ?_
      refine wp_region_held_drew (S := (fun w' : World => w'.cell? ⟨wb, 2, none⟩ = some (.int .i64 1))) (by kernel_rfl) q2 (fun hHeld => ?_)
      refine wpAnyH_take (i := 0) (v := ?v1) rfl (by kernel_rfl) (by kernel_rfl) (by kernel_rfl) (fun _ _ _ h => h) (Or.inl ⟨by rfl, ?hy1⟩) (by assumption) ?rest1
      case hy1 => (intro w' hSw; go_simp; try with_reducible rfl)
      try simp only [Act.put, List.setIfInBounds_toArray, List.set_cons_zero, List.set_cons_succ]
      refine wpAnyH_take (i := 1) (v := ?v2) rfl (by kernel_rfl) (by kernel_rfl) (by kernel_rfl) (fun _ _ _ h => h) (Or.inl ⟨by rfl, ?hy2⟩) (by assumption) ?rest2
      case hy2 => (intro w' hSw; go_simp; try with_reducible rfl)
      try simp only [Act.put, List.setIfInBounds_toArray, List.set_cons_zero, List.set_cons_succ]
      refine wpAnyH_take (i := 2) (v := ?v3) rfl (by kernel_rfl) (by kernel_rfl) (by kernel_rfl) (fun _ _ _ h => h) (Or.inl ⟨by rfl, ?hy3⟩) (by assumption) ?rest3
      case hy3 => (intro w' hSw; go_simp; try with_reducible rfl)
      try simp only [Act.put, List.setIfInBounds_toArray, List.set_cons_zero, List.set_cons_succ]
      refine wpAnyH_take (i := 3) (v := ?v4) rfl (by kernel_rfl) (by kernel_rfl) (by kernel_rfl) (fun _ _ _ h => h) (Or.inl ⟨by rfl, ?hy4⟩) (by assumption) ?rest4
      case hy4 => (intro w' hSw; go_simp; try with_reducible rfl)
      try simp only [Act.put, List.setIfInBounds_toArray, List.set_cons_zero, List.set_cons_succ]
      refine wpAnyH_take (i := 5) (v := ?v5) rfl (by kernel_rfl) (by kernel_rfl) (by kernel_rfl) (fun _ _ _ h => h) (Or.inl ⟨by rfl, ?hy5⟩) (by assumption) ?rest5
      case hy5 => (intro w' hSw; go_simp; try with_reducible rfl)
      try simp only [Act.put, List.setIfInBounds_toArray, List.set_cons_zero, List.set_cons_succ]
      refine wpAnyH_take (i := 6) (v := ?v6) rfl (by kernel_rfl) (by kernel_rfl) (by kernel_rfl) (fun _ _ _ h => h) (Or.inl ⟨by rfl, ?hy6⟩) (by assumption) ?rest6
      case hy6 => (intro w' hSw; go_simp; try with_reducible rfl)
      try simp only [Act.put, List.setIfInBounds_toArray, List.set_cons_zero, List.set_cons_succ]
      refine wpAnyH_take (i := 7) (v := ?v7) rfl (by kernel_rfl) (by kernel_rfl) (by kernel_rfl) (fun _ _ _ h => h) (Or.inl ⟨by rfl, ?hy7⟩) (by assumption) ?rest7
      case hy7 => (intro w' hSw; go_simp; try with_reducible rfl)
      try simp only [Act.put, List.setIfInBounds_toArray, List.set_cons_zero, List.set_cons_succ]
      refine wpAnyH_take (i := 8) (v := ?v8) rfl (by kernel_rfl) (by kernel_rfl) (by kernel_rfl) (fun _ _ _ h => h) (Or.inl ⟨by rfl, ?hy8⟩) (by assumption) ?rest8
      case hy8 => (intro w' hSw; go_simp; try with_reducible rfl)
      try simp only [Act.put, List.setIfInBounds_toArray, List.set_cons_zero, List.set_cons_succ]
      refine wpAnyH_take (i := 9) (v := ?v9) rfl (by kernel_rfl) (by kernel_rfl) (by kernel_rfl) (fun _ _ _ h => h) (Or.inl ⟨by rfl, ?hy9⟩) (by assumption) ?rest9
      case hy9 => (intro w' hSw; go_simp; try with_reducible rfl)
      try simp only [Act.put, List.setIfInBounds_toArray, List.set_cons_zero, List.set_cons_succ]
      refine wpAnyH_take (i := 10) (v := ?v10) rfl (by kernel_rfl) (by kernel_rfl) (by kernel_rfl) (fun _ _ _ h => h) (Or.inl ⟨by rfl, ?hy10⟩) (by assumption) ?rest10
      case hy10 => (intro w' hSw; go_simp; try with_reducible rfl)
      try simp only [Act.put, List.setIfInBounds_toArray, List.set_cons_zero, List.set_cons_succ]
      refine wpAnyH_take (i := 11) (v := ?v11) rfl (by kernel_rfl) (by kernel_rfl) (by kernel_rfl) (fun _ _ _ h => h) (Or.inl ⟨by rfl, ?hy11⟩) (by assumption) ?rest11
      case hy11 => (intro w' hSw; go_simp; try with_reducible rfl)
      try simp only [Act.put, List.setIfInBounds_toArray, List.set_cons_zero, List.set_cons_succ]
      refine wpAnyH_take (i := 12) (v := ?v12) rfl (by kernel_rfl) (by kernel_rfl) (by kernel_rfl) (fun _ _ _ h => h) (Or.inl ⟨by rfl, ?hy12⟩) (by assumption) ?rest12
      case hy12 => (intro w' hSw; go_simp; try with_reducible rfl)
      try simp only [Act.put, List.setIfInBounds_toArray, List.set_cons_zero, List.set_cons_succ]
      refine wpAnyH_take (i := 13) (v := ?v13) rfl (by kernel_rfl) (by kernel_rfl) (by kernel_rfl) (fun _ _ _ h => h) (Or.inl ⟨by rfl, ?hy13⟩) (by assumption) ?rest13
      case hy13 => (intro w' hSw; go_simp; try with_reducible rfl)
      try simp only [Act.put, List.setIfInBounds_toArray, List.set_cons_zero, List.set_cons_succ]
      refine wpAnyH_take (i := 14) (v := ?v14) rfl (by kernel_rfl) (by kernel_rfl) (by kernel_rfl) (fun _ _ _ h => h) (Or.inl ⟨by rfl, ?hy14⟩) (by assumption) ?rest14
      case hy14 => (intro w' hSw; go_simp; try with_reducible rfl)
      try simp only [Act.put, List.setIfInBounds_toArray, List.set_cons_zero, List.set_cons_succ]
      refine wpAnyH_take (i := 15) (v := ?v15) rfl (by kernel_rfl) (by kernel_rfl) (by kernel_rfl) (fun _ _ _ h => h) (Or.inl ⟨by rfl, ?hy15⟩) (by assumption) ?rest15
      case hy15 => (intro w' hSw; go_simp; try with_reducible rfl)
      try simp only [Act.put, List.setIfInBounds_toArray, List.set_cons_zero, List.set_cons_succ]
      refine wpAnyH_take (i := 16) (v := ?v16) rfl (by kernel_rfl) (by kernel_rfl) (by kernel_rfl) (fun _ _ _ h => h) (Or.inl ⟨by rfl, ?hy16⟩) (by assumption) ?rest16
      case hy16 => (intro w' hSw; go_simp; try with_reducible rfl)
      try simp only [Act.put, List.setIfInBounds_toArray, List.set_cons_zero, List.set_cons_succ]
      refine wpAnyH_take (i := 17) (v := ?v17) rfl (by kernel_rfl) (by kernel_rfl) (by kernel_rfl) (fun _ _ _ h => h) (Or.inl ⟨by rfl, ?hy17⟩) (by assumption) ?rest17
      case hy17 => (intro w' hSw; go_simp; try with_reducible rfl)
      try simp only [Act.put, List.setIfInBounds_toArray, List.set_cons_zero, List.set_cons_succ]
      refine wpAnyH_take (i := 18) (v := ?v18) rfl (by kernel_rfl) (by kernel_rfl) (by kernel_rfl) (fun _ _ _ h => h) (Or.inl ⟨by rfl, ?hy18⟩) (by assumption) ?rest18
      case hy18 => (intro w' hSw; go_simp; try with_reducible rfl)
      try simp only [Act.put, List.setIfInBounds_toArray, List.set_cons_zero, List.set_cons_succ]
      refine wpAnyH_take (i := 19) (v := ?v19) rfl (by kernel_rfl) (by kernel_rfl) (by kernel_rfl) (fun _ _ _ h => h) (Or.inl ⟨by rfl, ?hy19⟩) (by assumption) ?rest19
      case hy19 => (intro w' hSw; go_simp; try with_reducible rfl)
      try simp only [Act.put, List.setIfInBounds_toArray, List.set_cons_zero, List.set_cons_succ]
      refine wpAnyH_take (i := 20) (v := ?v20) rfl (by kernel_rfl) (by kernel_rfl) (by kernel_rfl) (fun _ _ _ h => h) (Or.inl ⟨by rfl, ?hy20⟩) (by assumption) ?rest20
      case hy20 => (intro w' hSw; go_simp; try with_reducible rfl)
      try simp only [Act.put, List.setIfInBounds_toArray, List.set_cons_zero, List.set_cons_succ]
      refine wpAnyH_take (i := 21) (v := ?v21) rfl (by kernel_rfl) (by kernel_rfl) (by kernel_rfl) (fun _ _ _ h => h) (Or.inl ⟨by rfl, ?hy21⟩) (by assumption) ?rest21
      case hy21 => (intro w' hSw; go_simp; try with_reducible rfl)
      try simp only [Act.put, List.setIfInBounds_toArray, List.set_cons_zero, List.set_cons_succ]
      refine wpAnyH_take (i := 22) (v := ?v22) rfl (by kernel_rfl) (by kernel_rfl) (by kernel_rfl) (fun _ _ _ h => h) (Or.inl ⟨by rfl, ?hy22⟩) (by assumption) ?rest22
      case hy22 => (intro w' hSw; go_simp; try with_reducible rfl)
      try simp only [Act.put, List.setIfInBounds_toArray, List.set_cons_zero, List.set_cons_succ]
      refine wpAnyH_take (i := 23) (v := ?v23) rfl (by kernel_rfl) (by kernel_rfl) (by kernel_rfl) (fun _ _ _ h => h) (Or.inl ⟨by rfl, ?hy23⟩) (by assumption) ?rest23
      case hy23 => (intro w' hSw; go_simp; try with_reducible rfl)
      try simp only [Act.put, List.setIfInBounds_toArray, List.set_cons_zero, List.set_cons_succ]
      refine wpAnyH_take (i := 24) (v := ?v24) rfl (by kernel_rfl) (by kernel_rfl) (by kernel_rfl) (fun _ _ _ h => h) (Or.inl ⟨by rfl, ?hy24⟩) (by assumption) ?rest24
      case hy24 => (intro w' hSw; go_simp; try with_reducible rfl)
      try simp only [Act.put, List.setIfInBounds_toArray, List.set_cons_zero, List.set_cons_succ]
      refine wpAnyH_take (i := 25) (v := ?v25) rfl (by kernel_rfl) (by kernel_rfl) (by kernel_rfl) (fun _ _ _ h => h) (Or.inl ⟨by rfl, ?hy25⟩) (by assumption) ?rest25
      case hy25 => (intro w' hSw; go_simp; try with_reducible rfl)
      try simp only [Act.put, List.setIfInBounds_toArray, List.set_cons_zero, List.set_cons_succ]
      refine wpAnyH_take (i := 26) (v := ?v26) rfl (by kernel_rfl) (by kernel_rfl) (by kernel_rfl) (fun _ _ _ h => h) (Or.inl ⟨by rfl, ?hy26⟩) (by assumption) ?rest26
      case hy26 => (intro w' hSw; go_simp; try with_reducible rfl)
      try simp only [Act.put, List.setIfInBounds_toArray, List.set_cons_zero, List.set_cons_succ]
      refine wpAnyH_take (i := 27) (v := ?v27) rfl (by kernel_rfl) (by kernel_rfl) (by kernel_rfl) (fun _ _ _ h => h) (Or.inl ⟨by rfl, ?hy27⟩) (by assumption) ?rest27
      case hy27 => (intro w' hSw; go_simp; try with_reducible rfl)
      try simp only [Act.put, List.setIfInBounds_toArray, List.set_cons_zero, List.set_cons_succ]
      refine wpAnyH_take (i := 28) (v := ?v28) rfl (by kernel_rfl) (by kernel_rfl) (by kernel_rfl) (fun _ _ _ h => h) (Or.inl ⟨by rfl, ?hy28⟩) (by assumption) ?rest28
      case hy28 => (intro w' hSw; go_simp; try with_reducible rfl)
      try simp only [Act.put, List.setIfInBounds_toArray, List.set_cons_zero, List.set_cons_succ]
      refine wpAnyH_ready (rs := [4, 29]) (by kernel_rfl) (by simp) ?_
      refine AllReadyH.cons (i := 4) (by rfl) (fun K hK => ?ordA) (AllReadyH.cons (i := 29) (by rfl) (fun K hK => ?ordB) AllReadyH.nil)
      case ordA =>
        go_simp
        refine hK.out _ _ (q2) (fun hHeld => ?_)
        clear hK K
        try simp only [Act.put, List.setIfInBounds_toArray, List.set_cons_zero, List.set_cons_succ]
        refine wpAnyH_ready (rs := [29]) (by kernel_rfl) (by simp) ?_
        refine AllReadyH.cons (i := 29) (by rfl) (fun K hK => ?_) AllReadyH.nil
        go_simp
        refine hK.out _ _ ((blk_cell' (by omega)).trans q2) (fun hHeld => ?_)
        clear hK K
        try simp only [Act.put, List.setIfInBounds_toArray, List.set_cons_zero, List.set_cons_succ]
        refine wpAnyH_ready (rs := [30]) (by kernel_rfl) (by simp) ?_
        refine AllReadyH.cons (i := 30) (o := { dst := some 76, op := Op.call { callee := Callee.builtin Builtin.append, args := #[Operand.tmp 50, Operand.tmp 75], argTypes := #[39, 39] }, type := 39, pos := _, after := _, guard := none }) rfl (fun K hK => ?_) AllReadyH.nil
        refine step_append_own rfl _ _ 39 rfl (wb + 1) 85 j0 _ 4 80 Tryz.underlying39 ji jz0 jz1 jz2 rfl (by decide) (.slice none 0 0) 0 [] (by simp [Act.eval]) (World.ownsRow_nil _ _ _ _) ⟨wC.heap.size, 0, none⟩ 4 4 (keptV (.slice ao k cl) ++ keptV (.slice aoA (k + 1) ca) ++ keptV (.slice aoB (k + 2) cb) ++ keptV (.slice aoC (k + 3) cc)) (by simp [Act.eval]) rfl HNW.out (four_one keptV_one keptV_one keptV_one keptV_one) (by unfold maxLen; omega) (by omega) hba ?_
        intro v' wD hown' hgrow' hnil' hblk'
        obtain ⟨kb, kc, rfl⟩ := own_form hown' (by omega)
        have HKR := hide hown'
        have HWD := hide ((HWwC.out.alloc _).drew.grownNe hgrow' (fun q => by cases q))
        have HFD := hide ((HBwC.out.alloc (by omega) _).drew.grown hgrow' (by simp; omega) (fun q hq => by cases hq))
        have HKD := hide ((Keeps.alloc (.string ⟨mk.toArray⟩) wC _).trans ((Keeps.drew _ _).trans (Keeps.grown hgrow')))
        have z0 := (row_cell HWD.out 2).trans (show _ = some (.int .i64 1) from rfl)
        have z1 := (row_cell HWD.out 3).trans (show _ = some (.slice none 0 0) from rfl)
        have z2 := row_free HWD.out 3
        clear hown' hgrow' hnil' hblk'
        refine hK.out _ _ (z0) (fun hHeld => ?_)
        clear hK K
        try simp only [Act.put, List.setIfInBounds_toArray, List.set_cons_zero, List.set_cons_succ]
        refine wpAnyH_take (i := 31) (v := ?v29) rfl (by kernel_rfl) (by kernel_rfl) (by kernel_rfl) (fun _ _ _ h => h) (Or.inl ⟨by rfl, ?hy29⟩) (by assumption) ?rest29
        case hy29 => (intro w' hSw; go_simp; try with_reducible rfl)
        try simp only [Act.put, List.setIfInBounds_toArray, List.set_cons_zero, List.set_cons_succ]
        refine wpAnyH_take (i := 32) (v := ?v30) rfl (by kernel_rfl) (by kernel_rfl) (by kernel_rfl) (fun _ _ _ h => h) (Or.inl ⟨by rfl, ?hy30⟩) (by assumption) ?rest30
        case hy30 => (intro w' hSw; go_simp; try with_reducible rfl)
        try simp only [Act.put, List.setIfInBounds_toArray, List.set_cons_zero, List.set_cons_succ]
        refine wpAnyH_ready (rs := [33]) (by kernel_rfl) (by simp) ?_
        refine AllReadyH.cons (i := 33) (by rfl) (fun K hK => ?_) AllReadyH.nil
        go_simp
        refine hK.out _ _ ((World.cell?_setCell_other _ _ _ _ (by simp)).trans z0) (fun hHeld => ?_)
        clear hK K
        try simp only [Act.put, List.setIfInBounds_toArray, List.set_cons_zero, List.set_cons_succ]
        refine wpAnyH_done (by kernel_rfl) ?_ _
        refine NoPanic.normal ?_
        go_wp2_with fail
        go_end0
        have hmk : mkV = .string ⟨mk.toArray⟩ := by rw [mkV, HM.out]
        have KF := HKD.out.trans (Keeps.set z1 (fun e => by cases e) (.slice (some ⟨kb, 0, none⟩) 4 kc))
        refine ⟨_, .slice aoA (k + 1) ca, .slice aoB (k + 2) cb, .slice aoC (k + 3) cc, kb, kc, rfl, ?_, ?_, ?_, ?_, ?_, heap_setCell_same _ wb 3 _ _ _ HWD.out, HFD.out.setCell (p := ⟨wb, 3, none⟩) (.inr (.inl rfl)) _⟩
        · rw [hmk]; exact ((((marked_own HR.out).keeps HKwA.out).keeps HKwB.out).keeps HKwC.out).keeps KF
        · rw [hmk]; exact ((HMwA.out.keeps HKwB.out).keeps HKwC.out).keeps KF
        · rw [hmk]; exact (HMwB.out.keeps HKwC.out).keeps KF
        · rw [hmk]; exact HMwC.out.keeps KF
        · have := ownsRow_setCell_below HKR.out (a := ⟨wb, 3, none⟩) (by show wb < wb + 1; omega) (.slice (some ⟨kb, 0, none⟩) 4 kc)
          simpa using this
      case ordB =>
        go_simp
        refine hK.out _ _ ((blk_cell' (by omega)).trans q2) (fun hHeld => ?_)
        clear hK K
        try simp only [Act.put, List.setIfInBounds_toArray, List.set_cons_zero, List.set_cons_succ]
        refine wpAnyH_ready (rs := [4]) (by kernel_rfl) (by simp) ?_
        refine AllReadyH.cons (i := 4) (by rfl) (fun K hK => ?_) AllReadyH.nil
        go_simp
        refine hK.out _ _ ((blk_cell' (by omega)).trans q2) (fun hHeld => ?_)
        clear hK K
        try simp only [Act.put, List.setIfInBounds_toArray, List.set_cons_zero, List.set_cons_succ]
        refine wpAnyH_ready (rs := [30]) (by kernel_rfl) (by simp) ?_
        refine AllReadyH.cons (i := 30) (o := { dst := some 76, op := Op.call { callee := Callee.builtin Builtin.append, args := #[Operand.tmp 50, Operand.tmp 75], argTypes := #[39, 39] }, type := 39, pos := _, after := _, guard := none }) rfl (fun K hK => ?_) AllReadyH.nil
        refine step_append_own rfl _ _ 39 rfl (wb + 1) 85 j0 _ 4 80 Tryz.underlying39 ji jz0 jz1 jz2 rfl (by decide) (.slice none 0 0) 0 [] (by simp [Act.eval]) (World.ownsRow_nil _ _ _ _) ⟨wC.heap.size, 0, none⟩ 4 4 (keptV (.slice ao k cl) ++ keptV (.slice aoA (k + 1) ca) ++ keptV (.slice aoB (k + 2) cb) ++ keptV (.slice aoC (k + 3) cc)) (by simp [Act.eval]) rfl HNW.out (four_one keptV_one keptV_one keptV_one keptV_one) (by unfold maxLen; omega) (by omega) hba ?_
        intro v' wD hown' hgrow' hnil' hblk'
        obtain ⟨kb, kc, rfl⟩ := own_form hown' (by omega)
        have HKR := hide hown'
        have HWD := hide ((HWwC.out.alloc _).drew.grownNe hgrow' (fun q => by cases q))
        have HFD := hide ((HBwC.out.alloc (by omega) _).drew.grown hgrow' (by simp; omega) (fun q hq => by cases hq))
        have HKD := hide ((Keeps.alloc (.string ⟨mk.toArray⟩) wC _).trans ((Keeps.drew _ _).trans (Keeps.grown hgrow')))
        have z0 := (row_cell HWD.out 2).trans (show _ = some (.int .i64 1) from rfl)
        have z1 := (row_cell HWD.out 3).trans (show _ = some (.slice none 0 0) from rfl)
        have z2 := row_free HWD.out 3
        clear hown' hgrow' hnil' hblk'
        refine hK.out _ _ (z0) (fun hHeld => ?_)
        clear hK K
        try simp only [Act.put, List.setIfInBounds_toArray, List.set_cons_zero, List.set_cons_succ]
        refine wpAnyH_take (i := 31) (v := ?v31) rfl (by kernel_rfl) (by kernel_rfl) (by kernel_rfl) (fun _ _ _ h => h) (Or.inl ⟨by rfl, ?hy31⟩) (by assumption) ?rest31
        case hy31 => (intro w' hSw; go_simp; try with_reducible rfl)
        try simp only [Act.put, List.setIfInBounds_toArray, List.set_cons_zero, List.set_cons_succ]
        refine wpAnyH_take (i := 32) (v := ?v32) rfl (by kernel_rfl) (by kernel_rfl) (by kernel_rfl) (fun _ _ _ h => h) (Or.inl ⟨by rfl, ?hy32⟩) (by assumption) ?rest32
        case hy32 => (intro w' hSw; go_simp; try with_reducible rfl)
        try simp only [Act.put, List.setIfInBounds_toArray, List.set_cons_zero, List.set_cons_succ]
        refine wpAnyH_ready (rs := [33]) (by kernel_rfl) (by simp) ?_
        refine AllReadyH.cons (i := 33) (by rfl) (fun K hK => ?_) AllReadyH.nil
        go_simp
        refine hK.out _ _ ((World.cell?_setCell_other _ _ _ _ (by simp)).trans z0) (fun hHeld => ?_)
        clear hK K
        try simp only [Act.put, List.setIfInBounds_toArray, List.set_cons_zero, List.set_cons_succ]
        refine wpAnyH_done (by kernel_rfl) ?_ _
        refine NoPanic.normal ?_
        go_wp2_with fail
        go_end0
        have hmk : mkV = .string ⟨mk.toArray⟩ := by rw [mkV, HM.out]
        have KF := HKD.out.trans (Keeps.set z1 (fun e => by cases e) (.slice (some ⟨kb, 0, none⟩) 4 kc))
        refine ⟨_, .slice aoA (k + 1) ca, .slice aoB (k + 2) cb, .slice aoC (k + 3) cc, kb, kc, rfl, ?_, ?_, ?_, ?_, ?_, heap_setCell_same _ wb 3 _ _ _ HWD.out, HFD.out.setCell (p := ⟨wb, 3, none⟩) (.inr (.inl rfl)) _⟩
        · rw [hmk]; exact ((((marked_own HR.out).keeps HKwA.out).keeps HKwB.out).keeps HKwC.out).keeps KF
        · rw [hmk]; exact ((HMwA.out.keeps HKwB.out).keeps HKwC.out).keeps KF
        · rw [hmk]; exact (HMwB.out.keeps HKwC.out).keeps KF
        · rw [hmk]; exact HMwC.out.keeps KF
        · have := ownsRow_setCell_below HKR.out (a := ⟨wb, 3, none⟩) (by show wb < wb + 1; omega) (.slice (some ⟨kb, 0, none⟩) 4 kc)
          simpa using this
end Go.Proofs.YtgdmgmklncmanaaGreatDoor
/- The walk over what asks whether all lists read as their owner wrote them. -/
namespace Go.Proofs.YtgdmgmklncmanaaGreatDoor
open Go.RowKit

/-- Of the lists that are kept: the k-th. -/
def KeptAt (kb : Nat) (k : Nat) (w : World) : Prop := ∃ v n, n ≤ 2000 ∧ Marked mkV v n w ∧ w.cell? ⟨kb, k * 4, none⟩ = some (.int .i64 1) ∧ w.cell? ⟨kb, k * 4 + 1, none⟩ = some v ∧ w.cell? ⟨kb, k * 4 + 2, none⟩ = some (.slice none 0 0) ∧ w.cell? ⟨kb, k * 4 + 3, none⟩ = some (.slice none 0 0)

set_option maxRecDepth 100000 in
set_option maxHeartbeats 4000000 in
theorem still_any (wb kb kc : Nat) (a0 a1 nn : Value) (w : World) (hW : WB wb a0 a1 nn (.slice (some ⟨kb, 0, none⟩) 4 kc) w) (hK : ∀ k, k < 4 → KeptAt kb k w) :
    Calls Tryz.prog 12 #[.pointer (some ⟨wb, 0, none⟩)] w fun e w' => e = .returned (.bool true) ∧ Below w.heap.size w w' := by
  have HW := hide hW; have HK := hide hK
  have hwl := lt_of_block hW
  clear hW hK
  go_enter Tryz.func12, Tryz.ntmps12
  go_wp2_with fail
  go_loopw [3] (fun i wr => ∃ k : Nat, k ≤ 4 ∧ i = .int .i64 (k : Int) ∧ Hid (Below w.heap.size w wr)) (fun i _ => 4 - (intOf i).toNat)
  case atStart => exact ⟨0, by omega, rfl, hide (Below.refl _ _)⟩
  case round =>
    obtain ⟨k, hk, rfl, HB⟩ := hrel
    have q3 : wr.cell? ⟨wb, 3, none⟩ = some (.slice (some ⟨kb, 0, none⟩) 4 kc) := (HB.out.cell (p := ⟨wb, 3, none⟩) hwl).trans ((row_cell HW.out 3).trans rfl)
    by_cases hlt : k < 4
    · have b1 : (k : Int) < 4 := by omega
      obtain ⟨v, n, hn, hm, k0, k1, k2, k3⟩ := HK.out k hlt
      obtain ⟨ao, c, rfl, hmm⟩ := id hm
      have hkl := World.block_lt_of_cell? w _ k0
      have d0 := (HB.out.cell (p := ⟨kb, k * 4, none⟩) hkl).trans k0
      have d1 := (HB.out.cell (p := ⟨kb, k * 4 + 1, none⟩) hkl).trans k1
      have d2 := (HB.out.cell (p := ⟨kb, k * 4 + 2, none⟩) hkl).trans k2
      have d3 := (HB.out.cell (p := ⟨kb, k * 4 + 3, none⟩) hkl).trans k3
      have HMM := hide hmm
      clear hm k0 k1 k2 k3 hmm
      go_wp2_with fail
      obtain ⟨W0, hW0⟩ : ∃ W0, wr.alloc (.cells #[.int .i64 1, .slice ao n c, .slice none 0 0, .slice none 0 0] 85) = W0 := ⟨_, rfl⟩
      obtain ⟨B, hBx⟩ : ∃ B, wr.heap.size = B := ⟨_, rfl⟩
      have hsb : W0.heap.size = B + 1 := by rw [← hW0, ← hBx]; simp
      have HX0 : Hid (W0.heap[B]? = some (.cells #[.int .i64 1, .slice ao n c, .slice none 0 0, .slice none 0 0] 85 (0, 0))) := hide (by rw [← hW0, ← hBx]; exact heap_alloc_new wr _)
      have HB0 : Hid (Below w.heap.size w W0) := hide (by rw [← hW0]; exact HB.out.alloc HB.out.size _)
      rw [hW0, hBx]
      clear hW0 hBx d0 d1 d2 d3 q3 HB
      go_loopw [5] (fun i w2 => ∃ j : Nat, j ≤ n ∧ i = .int .i64 (j : Int) ∧ Hid (w2.heap[B]? = some (.cells #[.int .i64 1, .slice ao n c, .slice none 0 0, .slice none 0 0] 85 (0, 0))) ∧ Hid (Below w.heap.size w w2)) (fun i _ => n - (intOf i).toNat)
      case atStart => exact ⟨0, by omega, rfl, HX0, HB0⟩
      case round =>
        clear HX0 HB0 hsb
        obtain ⟨j, hj, rfl, HX, HB⟩ := hrel
        have x0 := row_cell HX.out 0
        have x1 := row_cell HX.out 1
        by_cases hjn : j < n
        · have b2 : (j : Int) < (n : Int) := by omega
          obtain ⟨g, rfl, hg, hmk⟩ : ∃ g, ao = some ⟨g, 0, none⟩ ∧ g < w.heap.size ∧ ∀ i, i < n → w.cell? ⟨g, i, none⟩ = some (.string ⟨mk1.toArray⟩) := by
            rcases HMM.out with h | h
            · omega
            · exact h
          obtain ⟨mk, hmk1⟩ : ∃ mk, mk1 = mk := ⟨_, rfl⟩
          rw [hmk1] at hmk
          have y := (HB.out.cell (p := ⟨g, j, none⟩) hg).trans (hmk j hjn)
          have bq : (mk == mk) = true := by simp
          have HM := hide hmk1
          have hBl := lt_of_block HX.out
          have hgl : g < wr.heap.size := by have := HB.out.size; omega
          clear hmk hmk1
          go_wp2_with fail
          go_region_held3 (fun w' => w'.cell? ⟨B, 0, none⟩ = some (.int .i64 1) ∧ w'.cell? ⟨B, 1, none⟩ = some (.slice (some ⟨g, 0, none⟩) n c) ∧ w'.cell? ⟨g, j, none⟩ = some (.string ⟨mk.toArray⟩))
            (first | assumption | exact ⟨z0, z1, z2⟩ | exact ⟨x0, x1, y⟩ | simp [go_sem, *])
            (first
              | (go_at_call 26; refine (mark_any wr.drew).mono ?_; rintro e w4 ⟨he, hb4⟩; rw [HM.out] at he; subst he; have HX4 := hide ((hb4.block B hBl).trans HX.out); have HB4 := hide (HB.out.drew.trans (hb4.mono HB.out.size)); have z0 := (row_cell HX4.out 0).trans (show _ = some (.int .i64 1) from rfl); have z1 := (row_cell HX4.out 1).trans (show _ = some (.slice (some ⟨g, 0, none⟩) n c) from rfl); have z2 := (hb4.cell (p := ⟨g, j, none⟩) hgl).trans y; clear hb4))
          all_goals go_wp2_with fail
          all_goals exact ⟨⟨j + 1, by omega, by go_num, HX4, HB4⟩, by simp [intOf]; omega⟩
        · obtain rfl : j = n := by omega
          have b2 : ¬ (j : Int) < (j : Int) := by omega
          have x2 := row_cell HX.out 2
          have x3 := row_cell HX.out 3
          go_wp2_with fail
          go_loopw [6] (fun i w2 => i = .int .i64 (0 : Int) ∧ w2 = wr) (fun _ _ => 0)
          case atStart => exact ⟨rfl, rfl⟩
          case round =>
            obtain ⟨rfl, rfl⟩ := hrel
            go_wp2_with fail
            go_loopw [7] (fun i w2 => i = .int .i64 (0 : Int) ∧ w2 = wr) (fun _ _ => 0)
            case atStart => exact ⟨rfl, rfl⟩
            case round =>
              obtain ⟨rfl, rfl⟩ := hrel
              go_wp2_with fail
              exact ⟨⟨k + 1, by omega, by go_num, HB⟩, by simp [intOf]; omega⟩
    · obtain rfl : k = 4 := by omega
      have b1 : ¬ ((4 : Nat) : Int) < 4 := by omega
      go_wp2_with fail
      go_ret
      exact ⟨rfl, HB.out⟩
end Go.Proofs.YtgdmgmklncmanaaGreatDoor
