/- Of Ins: RlW3. -/
import Derived.Test.YtgdmgmklncmanaaGreatDoorIns21
/- The walks over a line, the document's own answer: needs, breaks, wakes. (Written by tools/gen_rlw3.py.) -/
namespace Go.Proofs.YtgdmgmklncmanaaGreatDoor
open Go.RowKit
open Arc (RSt RCmd S)

theorem info_rneed : (Tryz.prog.info? 104).map (fun i => (i.zero, i.size, i.bytes)) = some (some (.agg #[.string ByteArray.empty, .string ByteArray.empty]), 2, 32) := by kernel_rfl
theorem off_below {ab q : Nat} {sl : Fin 8 → Value} {w w' : World} (h : Off ab q sl w) (hb : Below w.heap.size w w') : Off ab q sl w' := ⟨Nat.lt_of_lt_of_le h.1 hb.size, h.2⟩

set_option maxRecDepth 100000 in
set_option maxHeartbeats 1000000 in
theorem rl_breaks (ab q c : Nat) (tx : S) (st : RSt) (sl : Fin 8 → Value) (x y : S) (hk : rkd x = 4) (hy : y.length ≤ 2000) (hrl : st.breaks.length ≤ 2000) (s6 s7 : Value) (w : World) (h : RIn ab tx st sl w) (hq : q < w.heap.size) (hqa : q ≠ ab) (c0 : w.cell? ⟨q, 0, none⟩ = some (.string ⟨x.toArray⟩)) (c1 : w.cell? ⟨q, 1, none⟩ = some (.string ⟨y.toArray⟩)) :
    Calls Tryz.prog 23 #[.pointer (some ⟨ab, 0, none⟩), .slice (some ⟨q, 0, none⟩) 2 c, s6, s7] w fun e w' => e = .returned (.tuple #[s6, s7, .bool (Wd.isName y)]) ∧ (∃ sl', RIn ab tx { st with breaks := st.breaks ++ [y] } sl' w' ∧ sl' 6 = sl 6 ∧ sl' 7 = sl 7) ∧ Below ab w w' := by
  have HK := hide hk
  have H := hide h
  have hlt := h.lt
  clear hk h
  have hqa' : ¬ ab = q := fun e => hqa e.symm
  go_enter Tryz.func23, Tryz.ntmps23
  go_wp2_with (first
    | (go_at_call 22; refine (rkind_any x _).mono ?_; rintro e w1 ⟨he, hb1⟩; rw [HK.out] at he; subst he; have d1 := (hb1.cell (p := ⟨q, 1, none⟩) hq).trans c1; have H1 := hide (H.out.below hb1); have HB := hide (hb1.mono (Nat.le_of_lt hlt)); have hq1 : q < w1.heap.size := Nat.lt_of_lt_of_le hq hb1.size)
    | (go_at_call 45; refine (rIsName_any y hy _).mono ?_; rintro e w' ⟨rfl, rfl⟩))
  obtain ⟨i0, hi, hz0, hz1, hz2⟩ := info_three info_str
  have k5 := (row_cell H1.out.blk 4).trans (show _ = some (sl 1) from rfl)
  have f5 := row_free H1.out.blk 4
  obtain ⟨m, xs, hmx⟩ : ∃ m xs, rrow st 1 = (m, xs) := ⟨_, _, rfl⟩
  have hm1 : m ≤ 2000 := by have := congrArg Prod.fst hmx; simp only [rrow] at this; omega
  have own3 := H1.out.own 1
  rw [hmx] at own3
  have own3' : (w'.drew).ownsRow (ab + 1) 9 1 (sl 1) m xs := own3
  have HMX := hide hmx
  have hlu := H1.out.lt
  clear hmx own3
  go_region_law (refine step_append_own rfl _ _ 30 rfl (ab + 1) 9 i0 _ 1 16 Tryz.underlying30 hi hz0 hz1 hz2 rfl (by decide) (sl 1) m xs rfl (own3'.alloc _) ⟨w'.heap.size, 0, none⟩ 1 1 [_] (by simp [Act.eval]) rfl (cell_one_new _ _ _) (fun x hx => by simp at hx; subst hx; rfl) (by unfold maxLen; omega) (by omega) (by simp; omega) ?_; intro v' w4 hown' hgrow4 hnil4 hblk4; obtain ⟨gv, cv, rfl⟩ := own_form hown' (by omega); have hk4 := RIn.kept (H1.out.drew.alloc _) 1 hgrow4; have q5 := (row_cell hk4 4).trans (show _ = some (sl 1) from rfl); have g5 := row_free hk4 4; have O4 := hide hown'; have G4 := hide hgrow4; have B4 := hide hblk4; clear hown' hgrow4 hnil4 hblk4 hk4)
  all_goals
    have hprow : rrow { st with breaks := st.breaks ++ [y] } 1 = (m + 1, xs ++ [.string ⟨y.toArray⟩]) := by
      have := HMX.out
      simp only [rrow, Prod.mk.injEq] at this ⊢
      rw [← this.1, ← this.2]; simp [strV]
    have hown2 : w4.ownsRow (ab + 1) (rty 1) (rsz 1) (.slice (some ⟨gv, 0, none⟩) (m + 1) cv) (rrow { st with breaks := st.breaks ++ [y] } 1).1 (rrow { st with breaks := st.breaks ++ [y] } 1).2 := by rw [hprow]; exact O4.out
    have HP5 := hide (RIn.put (H1.out.drew.alloc _) 1 (by decide) G4.out hown2 B4.out (fun j hj => by
      match j, hj with
      | 0, _ => rfl
      | 1, h => exact absurd rfl h
      | 2, _ => rfl
      | 3, _ => rfl
      | 4, _ => rfl
      | 5, _ => rfl
      | 6, _ => rfl
      | 7, _ => rfl) rfl rfl)
    have HB5 : Hid (Below ab w (w4.setCell ⟨ab, 4, none⟩ (.slice (some ⟨gv, 0, none⟩) (m + 1) cv))) := hide (((show Below ab w w4 from ((HB.out.drew.alloc (by show ab ≤ w'.heap.size; omega) _).grown G4.out (by simp; omega) (fun k hk => by have := ((H1.out.own 1).lt k hk).1; omega)))).setCell (p := ⟨ab, 4, none⟩) (Nat.le_refl ab) _)
    clear hown2 hprow O4 G4 B4
    go_wp2_with fail
    exact bodyPost_ret (v := .tuple #[s6, s7, .bool (Wd.isName y)]) (by simp [results, Tryz.results23, go_sem]) rfl ⟨rfl, ⟨_, HP5.out, rfl, rfl⟩, HB5.out⟩

set_option maxRecDepth 100000 in
set_option maxHeartbeats 1000000 in
theorem rl_wakes (ab q c : Nat) (tx : S) (st : RSt) (sl : Fin 8 → Value) (x y : S) (hk : rkd x = 5) (hy : y.length ≤ 2000) (hrl : st.wakes.length ≤ 2000) (s6 s7 : Value) (w : World) (h : RIn ab tx st sl w) (hq : q < w.heap.size) (hqa : q ≠ ab) (c0 : w.cell? ⟨q, 0, none⟩ = some (.string ⟨x.toArray⟩)) (c1 : w.cell? ⟨q, 1, none⟩ = some (.string ⟨y.toArray⟩)) :
    Calls Tryz.prog 23 #[.pointer (some ⟨ab, 0, none⟩), .slice (some ⟨q, 0, none⟩) 2 c, s6, s7] w fun e w' => e = .returned (.tuple #[s6, s7, .bool (Wd.isPath y)]) ∧ (∃ sl', RIn ab tx { st with wakes := st.wakes ++ [y] } sl' w' ∧ sl' 6 = sl 6 ∧ sl' 7 = sl 7) ∧ Below ab w w' := by
  have HK := hide hk
  have H := hide h
  have hlt := h.lt
  clear hk h
  have hqa' : ¬ ab = q := fun e => hqa e.symm
  go_enter Tryz.func23, Tryz.ntmps23
  go_wp2_with (first
    | (go_at_call 22; refine (rkind_any x _).mono ?_; rintro e w1 ⟨he, hb1⟩; rw [HK.out] at he; subst he; have d1 := (hb1.cell (p := ⟨q, 1, none⟩) hq).trans c1; have H1 := hide (H.out.below hb1); have HB := hide (hb1.mono (Nat.le_of_lt hlt)); have hq1 : q < w1.heap.size := Nat.lt_of_lt_of_le hq hb1.size)
    | (go_at_call 46; refine (rIsPath_any y hy _).mono ?_; rintro e w' ⟨rfl, rfl⟩))
  obtain ⟨i0, hi, hz0, hz1, hz2⟩ := info_three info_str
  have k5 := (row_cell H1.out.blk 5).trans (show _ = some (sl 2) from rfl)
  have f5 := row_free H1.out.blk 5
  obtain ⟨m, xs, hmx⟩ : ∃ m xs, rrow st 2 = (m, xs) := ⟨_, _, rfl⟩
  have hm1 : m ≤ 2000 := by have := congrArg Prod.fst hmx; simp only [rrow] at this; omega
  have own3 := H1.out.own 2
  rw [hmx] at own3
  have own3' : (w'.drew).ownsRow (ab + 1) 9 1 (sl 2) m xs := own3
  have HMX := hide hmx
  have hlu := H1.out.lt
  clear hmx own3
  go_region_law (refine step_append_own rfl _ _ 30 rfl (ab + 1) 9 i0 _ 1 16 Tryz.underlying30 hi hz0 hz1 hz2 rfl (by decide) (sl 2) m xs rfl (own3'.alloc _) ⟨w'.heap.size, 0, none⟩ 1 1 [_] (by simp [Act.eval]) rfl (cell_one_new _ _ _) (fun x hx => by simp at hx; subst hx; rfl) (by unfold maxLen; omega) (by omega) (by simp; omega) ?_; intro v' w4 hown' hgrow4 hnil4 hblk4; obtain ⟨gv, cv, rfl⟩ := own_form hown' (by omega); have hk4 := RIn.kept (H1.out.drew.alloc _) 2 hgrow4; have q5 := (row_cell hk4 5).trans (show _ = some (sl 2) from rfl); have g5 := row_free hk4 5; have O4 := hide hown'; have G4 := hide hgrow4; have B4 := hide hblk4; clear hown' hgrow4 hnil4 hblk4 hk4)
  all_goals
    have hprow : rrow { st with wakes := st.wakes ++ [y] } 2 = (m + 1, xs ++ [.string ⟨y.toArray⟩]) := by
      have := HMX.out
      simp only [rrow, Prod.mk.injEq] at this ⊢
      rw [← this.1, ← this.2]; simp [strV]
    have hown2 : w4.ownsRow (ab + 1) (rty 2) (rsz 2) (.slice (some ⟨gv, 0, none⟩) (m + 1) cv) (rrow { st with wakes := st.wakes ++ [y] } 2).1 (rrow { st with wakes := st.wakes ++ [y] } 2).2 := by rw [hprow]; exact O4.out
    have HP5 := hide (RIn.put (H1.out.drew.alloc _) 2 (by decide) G4.out hown2 B4.out (fun j hj => by
      match j, hj with
      | 0, _ => rfl
      | 1, _ => rfl
      | 2, h => exact absurd rfl h
      | 3, _ => rfl
      | 4, _ => rfl
      | 5, _ => rfl
      | 6, _ => rfl
      | 7, _ => rfl) rfl rfl)
    have HB5 : Hid (Below ab w (w4.setCell ⟨ab, 5, none⟩ (.slice (some ⟨gv, 0, none⟩) (m + 1) cv))) := hide (((show Below ab w w4 from ((HB.out.drew.alloc (by show ab ≤ w'.heap.size; omega) _).grown G4.out (by simp; omega) (fun k hk => by have := ((H1.out.own 2).lt k hk).1; omega)))).setCell (p := ⟨ab, 5, none⟩) (Nat.le_refl ab) _)
    clear hown2 hprow O4 G4 B4
    go_wp2_with fail
    exact bodyPost_ret (v := .tuple #[s6, s7, .bool (Wd.isPath y)]) (by simp [results, Tryz.results23, go_sem]) rfl ⟨rfl, ⟨_, HP5.out, rfl, rfl⟩, HB5.out⟩

set_option maxRecDepth 100000 in
set_option maxHeartbeats 1000000 in
theorem rl_needs1 (ab q c : Nat) (tx : S) (st : RSt) (sl : Fin 8 → Value) (x y : S) (hk : rkd x = 3) (hy : y.length ≤ 2000) (hrl : st.needs.length ≤ 2000) (s6 s7 : Value) (w : World) (h : RIn ab tx st sl w) (hq : q < w.heap.size) (hqa : q ≠ ab) (c0 : w.cell? ⟨q, 0, none⟩ = some (.string ⟨x.toArray⟩)) (c1 : w.cell? ⟨q, 1, none⟩ = some (.string ⟨y.toArray⟩)) :
    Calls Tryz.prog 23 #[.pointer (some ⟨ab, 0, none⟩), .slice (some ⟨q, 0, none⟩) 2 c, s6, s7] w fun e w' => e = .returned (.tuple #[s6, s7, .bool (Wd.isName y)]) ∧ (∃ sl', RIn ab tx { st with needs := st.needs ++ [(y, [])] } sl' w' ∧ sl' 6 = sl 6 ∧ sl' 7 = sl 7) ∧ Below ab w w' := by
  have HK := hide hk
  have H := hide h
  have hlt := h.lt
  clear hk h
  have hqa' : ¬ ab = q := fun e => hqa e.symm
  go_enter Tryz.func23, Tryz.ntmps23
  go_wp2_with (first
    | (go_at_call 22; refine (rkind_any x _).mono ?_; rintro e w1 ⟨he, hb1⟩; rw [HK.out] at he; subst he; have d1 := (hb1.cell (p := ⟨q, 1, none⟩) hq).trans c1; have H1 := hide (H.out.below hb1); have HB := hide (hb1.mono (Nat.le_of_lt hlt)); have hq1 : q < w1.heap.size := Nat.lt_of_lt_of_le hq hb1.size)
    | (go_at_call 45; refine (rIsName_any y hy _).mono ?_; rintro e w' ⟨rfl, rfl⟩))
  obtain ⟨i0, hi, hz0, hz1, hz2⟩ := info_three info_rneed
  have k5 := (row_cell H1.out.blk 3).trans (show _ = some (sl 0) from rfl)
  have f5 := row_free H1.out.blk 3
  obtain ⟨m, xs, hmx⟩ : ∃ m xs, rrow st 0 = (m, xs) := ⟨_, _, rfl⟩
  have hm1 : m ≤ 2000 := by have := congrArg Prod.fst hmx; simp only [rrow] at this; omega
  have own3 := H1.out.own 0
  rw [hmx] at own3
  have own3' : (w'.drew).ownsRow (ab + 1) 104 2 (sl 0) m xs := own3
  have HMX := hide hmx
  have hlu := H1.out.lt
  clear hmx own3
  go_region_law (refine step_append_own rfl _ _ 42 rfl (ab + 1) 104 i0 _ 2 32 Tryz.underlying42 hi hz0 hz1 hz2 rfl (by decide) (sl 0) m xs rfl (own3'.alloc _) ⟨w'.heap.size, 0, none⟩ 1 1 [_, _] (by simp [Act.eval]) rfl (cell_two_new _ _ _ _) (fun x hx => by simp at hx; rcases hx with rfl | rfl <;> rfl) (by unfold maxLen; omega) (by omega) (by simp; omega) ?_; intro v' w4 hown' hgrow4 hnil4 hblk4; obtain ⟨gv, cv, rfl⟩ := own_form hown' (by omega); have hk4 := RIn.kept (H1.out.drew.alloc _) 0 hgrow4; have q5 := (row_cell hk4 3).trans (show _ = some (sl 0) from rfl); have g5 := row_free hk4 3; have O4 := hide hown'; have G4 := hide hgrow4; have B4 := hide hblk4; clear hown' hgrow4 hnil4 hblk4 hk4)
  all_goals
    have hprow : rrow { st with needs := st.needs ++ [(y, [])] } 0 = (m + 1, xs ++ [.string ⟨y.toArray⟩, .string ⟨#[]⟩]) := by
      have := HMX.out
      simp only [rrow, Prod.mk.injEq] at this ⊢
      rw [← this.1, ← this.2]; simp [pairV, strV]
    have hown2 : w4.ownsRow (ab + 1) (rty 0) (rsz 0) (.slice (some ⟨gv, 0, none⟩) (m + 1) cv) (rrow { st with needs := st.needs ++ [(y, [])] } 0).1 (rrow { st with needs := st.needs ++ [(y, [])] } 0).2 := by rw [hprow]; exact O4.out
    have HP5 := hide (RIn.put (H1.out.drew.alloc _) 0 (by decide) G4.out hown2 B4.out (fun j hj => by
      match j, hj with
      | 0, h => exact absurd rfl h
      | 1, _ => rfl
      | 2, _ => rfl
      | 3, _ => rfl
      | 4, _ => rfl
      | 5, _ => rfl
      | 6, _ => rfl
      | 7, _ => rfl) rfl rfl)
    have HB5 : Hid (Below ab w (w4.setCell ⟨ab, 3, none⟩ (.slice (some ⟨gv, 0, none⟩) (m + 1) cv))) := hide (((show Below ab w w4 from ((HB.out.drew.alloc (by show ab ≤ w'.heap.size; omega) _).grown G4.out (by simp; omega) (fun k hk => by have := ((H1.out.own 0).lt k hk).1; omega)))).setCell (p := ⟨ab, 3, none⟩) (Nat.le_refl ab) _)
    clear hown2 hprow O4 G4 B4
    go_wp2_with fail
    exact bodyPost_ret (v := .tuple #[s6, s7, .bool (Wd.isName y)]) (by simp [results, Tryz.results23, go_sem]) rfl ⟨rfl, ⟨_, HP5.out, rfl, rfl⟩, HB5.out⟩

set_option maxRecDepth 100000 in
set_option maxHeartbeats 1000000 in
theorem rl_needs2_f (ab q c : Nat) (tx : S) (st : RSt) (sl : Fin 8 → Value) (x y v : S) (hk : rkd x = 3) (hy : y.length ≤ 2000) (hnm : Wd.isName y = false) (hrl : st.needs.length ≤ 2000) (s6 s7 : Value) (w : World) (h : RIn ab tx st sl w) (hq : q < w.heap.size) (hqa : q ≠ ab) (c0 : w.cell? ⟨q, 0, none⟩ = some (.string ⟨x.toArray⟩)) (c1 : w.cell? ⟨q, 1, none⟩ = some (.string ⟨y.toArray⟩)) (c2 : w.cell? ⟨q, 2, none⟩ = some (.string ⟨v.toArray⟩)) :
    Calls Tryz.prog 23 #[.pointer (some ⟨ab, 0, none⟩), .slice (some ⟨q, 0, none⟩) 3 c, s6, s7] w fun e w' => e = .returned (.tuple #[s6, s7, .bool (false)]) ∧ (∃ sl', RIn ab tx { st with needs := st.needs ++ [(y, v)] } sl' w' ∧ sl' 6 = sl 6 ∧ sl' 7 = sl 7) ∧ Below ab w w' := by
  have HK := hide hk
  have H := hide h
  have hlt := h.lt
  clear hk h
  have hqa' : ¬ ab = q := fun e => hqa e.symm
  have HV : Hid (∀ u : World, Calls Tryz.prog 15 #[.string ⟨v.toArray⟩] u fun e w' => ∃ (E : Int) (M R : List UInt8), e = .returned (.tuple #[.agg #[.int .i64 E, .string ⟨M.toArray⟩, .string ⟨R.toArray⟩], .bool (Ver.fine v)]) ∧ Below u.heap.size u w') := hide fun u => rver_bool v u
  go_enter Tryz.func23, Tryz.ntmps23
  go_wp2_with (first
    | (go_at_call 22; refine (rkind_any x _).mono ?_; rintro e w1 ⟨he, hb1⟩; rw [HK.out] at he; subst he; have d2 := (hb1.cell (p := ⟨q, 2, none⟩) hq).trans c2; have hq1 : q < w1.heap.size := Nat.lt_of_lt_of_le hq hb1.size)
    | (go_at_call 15; refine (HV.out _).mono ?_; rintro e w2 ⟨E, M, R, rfl, hb2⟩; have hbb := hb1.trans (hb2.mono hb1.size); have e1 := (hbb.cell (p := ⟨q, 1, none⟩) hq).trans c1; have e2 := (hbb.cell (p := ⟨q, 2, none⟩) hq).trans c2; have H2 := hide (H.out.below hbb); have HB2 := hide (hbb.mono (Nat.le_of_lt hlt)); have hq2 : q < w2.heap.size := Nat.lt_of_lt_of_le hq hbb.size)
    | (go_at_call 45; refine (rIsName_any y hy _).mono ?_; rintro e w' ⟨he, rfl⟩; rw [hnm] at he; subst he))
  have H3 := hide (H2.out.alloc (.cells #[.int .i64 E, .string ⟨M.toArray⟩, .string ⟨R.toArray⟩] 57))
  have HB := hide (HB2.out.alloc (Nat.le_of_lt H2.out.lt) (.cells #[.int .i64 E, .string ⟨M.toArray⟩, .string ⟨R.toArray⟩] 57))
  have hq3 : q < (w2.alloc (.cells #[.int .i64 E, .string ⟨M.toArray⟩, .string ⟨R.toArray⟩] 57)).heap.size := by simp; omega
  have g1 : (w2.alloc (.cells #[.int .i64 E, .string ⟨M.toArray⟩, .string ⟨R.toArray⟩] 57)).cell? ⟨q, 1, none⟩ = some (.string ⟨y.toArray⟩) := (((Below.refl _ w2).alloc (Nat.le_refl _) _).cell (p := ⟨q, 1, none⟩) hq2).trans e1
  have g2 : (w2.alloc (.cells #[.int .i64 E, .string ⟨M.toArray⟩, .string ⟨R.toArray⟩] 57)).cell? ⟨q, 2, none⟩ = some (.string ⟨v.toArray⟩) := (((Below.refl _ w2).alloc (Nat.le_refl _) _).cell (p := ⟨q, 2, none⟩) hq2).trans e2
  generalize hu : w2.alloc (.cells #[.int .i64 E, .string ⟨M.toArray⟩, .string ⟨R.toArray⟩] 57) = u at *
  clear hu e1 e2 H2 HB2 hb2 hbb hq2
  obtain ⟨i0, hi, hz0, hz1, hz2⟩ := info_three info_rneed
  have k5 := (row_cell H3.out.blk 3).trans (show _ = some (sl 0) from rfl)
  have f5 := row_free H3.out.blk 3
  obtain ⟨m, xs, hmx⟩ : ∃ m xs, rrow st 0 = (m, xs) := ⟨_, _, rfl⟩
  have hm1 : m ≤ 2000 := by have := congrArg Prod.fst hmx; simp only [rrow] at this; omega
  have own3 := H3.out.own 0
  rw [hmx] at own3
  have own3' : (u.drew).ownsRow (ab + 1) 104 2 (sl 0) m xs := own3
  have HMX := hide hmx
  have hlu := H3.out.lt
  clear hmx own3
  go_region_law (refine step_append_own rfl _ _ 42 rfl (ab + 1) 104 i0 _ 2 32 Tryz.underlying42 hi hz0 hz1 hz2 rfl (by decide) (sl 0) m xs rfl (own3'.alloc _) ⟨u.heap.size, 0, none⟩ 1 1 [_, _] (by simp [Act.eval]) rfl (cell_two_new _ _ _ _) (fun x hx => by simp at hx; rcases hx with rfl | rfl <;> rfl) (by unfold maxLen; omega) (by omega) (by simp; omega) ?_; intro v' w4 hown' hgrow4 hnil4 hblk4; obtain ⟨gv, cv, rfl⟩ := own_form hown' (by omega); have hk4 := RIn.kept (H3.out.drew.alloc _) 0 hgrow4; have q5 := (row_cell hk4 3).trans (show _ = some (sl 0) from rfl); have g5 := row_free hk4 3; have O4 := hide hown'; have G4 := hide hgrow4; have B4 := hide hblk4; clear hown' hgrow4 hnil4 hblk4 hk4)
  all_goals
    have hprow : rrow { st with needs := st.needs ++ [(y, v)] } 0 = (m + 1, xs ++ [.string ⟨y.toArray⟩, .string ⟨v.toArray⟩]) := by
      have := HMX.out
      simp only [rrow, Prod.mk.injEq] at this ⊢
      rw [← this.1, ← this.2]; simp [pairV, strV]
    have hown2 : w4.ownsRow (ab + 1) (rty 0) (rsz 0) (.slice (some ⟨gv, 0, none⟩) (m + 1) cv) (rrow { st with needs := st.needs ++ [(y, v)] } 0).1 (rrow { st with needs := st.needs ++ [(y, v)] } 0).2 := by rw [hprow]; exact O4.out
    have HP5 := hide (RIn.put (H3.out.drew.alloc _) 0 (by decide) G4.out hown2 B4.out (fun j hj => by
      match j, hj with
      | 0, h => exact absurd rfl h
      | 1, _ => rfl
      | 2, _ => rfl
      | 3, _ => rfl
      | 4, _ => rfl
      | 5, _ => rfl
      | 6, _ => rfl
      | 7, _ => rfl) rfl rfl)
    have HB5 : Hid (Below ab w (w4.setCell ⟨ab, 3, none⟩ (.slice (some ⟨gv, 0, none⟩) (m + 1) cv))) := hide (((show Below ab w w4 from ((HB.out.drew.alloc (by show ab ≤ u.heap.size; omega) _).grown G4.out (by simp; omega) (fun k hk => by have := ((H3.out.own 0).lt k hk).1; omega)))).setCell (p := ⟨ab, 3, none⟩) (Nat.le_refl ab) _)
    clear hown2 hprow O4 G4 B4
    go_wp2_with fail
    exact bodyPost_ret (v := .tuple #[s6, s7, .bool (false)]) (by simp [results, Tryz.results23, go_sem]) rfl ⟨rfl, ⟨_, HP5.out, rfl, rfl⟩, HB5.out⟩

set_option maxRecDepth 100000 in
set_option maxHeartbeats 1000000 in
theorem rl_needs2_t (ab q c : Nat) (tx : S) (st : RSt) (sl : Fin 8 → Value) (x y v : S) (hk : rkd x = 3) (hy : y.length ≤ 2000) (hnm : Wd.isName y = true) (hrl : st.needs.length ≤ 2000) (s6 s7 : Value) (w : World) (h : RIn ab tx st sl w) (hq : q < w.heap.size) (hqa : q ≠ ab) (c0 : w.cell? ⟨q, 0, none⟩ = some (.string ⟨x.toArray⟩)) (c1 : w.cell? ⟨q, 1, none⟩ = some (.string ⟨y.toArray⟩)) (c2 : w.cell? ⟨q, 2, none⟩ = some (.string ⟨v.toArray⟩)) :
    Calls Tryz.prog 23 #[.pointer (some ⟨ab, 0, none⟩), .slice (some ⟨q, 0, none⟩) 3 c, s6, s7] w fun e w' => e = .returned (.tuple #[s6, s7, .bool (Ver.fine v)]) ∧ (∃ sl', RIn ab tx { st with needs := st.needs ++ [(y, v)] } sl' w' ∧ sl' 6 = sl 6 ∧ sl' 7 = sl 7) ∧ Below ab w w' := by
  have HK := hide hk
  have H := hide h
  have hlt := h.lt
  clear hk h
  have hqa' : ¬ ab = q := fun e => hqa e.symm
  have HV : Hid (∀ u : World, Calls Tryz.prog 15 #[.string ⟨v.toArray⟩] u fun e w' => ∃ (E : Int) (M R : List UInt8), e = .returned (.tuple #[.agg #[.int .i64 E, .string ⟨M.toArray⟩, .string ⟨R.toArray⟩], .bool (Ver.fine v)]) ∧ Below u.heap.size u w') := hide fun u => rver_bool v u
  go_enter Tryz.func23, Tryz.ntmps23
  go_wp2_with (first
    | (go_at_call 22; refine (rkind_any x _).mono ?_; rintro e w1 ⟨he, hb1⟩; rw [HK.out] at he; subst he; have d2 := (hb1.cell (p := ⟨q, 2, none⟩) hq).trans c2; have hq1 : q < w1.heap.size := Nat.lt_of_lt_of_le hq hb1.size)
    | (go_at_call 15; refine (HV.out _).mono ?_; rintro e w2 ⟨E, M, R, rfl, hb2⟩; have hbb := hb1.trans (hb2.mono hb1.size); have e1 := (hbb.cell (p := ⟨q, 1, none⟩) hq).trans c1; have e2 := (hbb.cell (p := ⟨q, 2, none⟩) hq).trans c2; have H2 := hide (H.out.below hbb); have HB2 := hide (hbb.mono (Nat.le_of_lt hlt)); have hq2 : q < w2.heap.size := Nat.lt_of_lt_of_le hq hbb.size)
    | (go_at_call 45; refine (rIsName_any y hy _).mono ?_; rintro e w' ⟨he, rfl⟩; rw [hnm] at he; subst he))
  have H3 := hide (H2.out.alloc (.cells #[.int .i64 E, .string ⟨M.toArray⟩, .string ⟨R.toArray⟩] 57))
  have HB := hide (HB2.out.alloc (Nat.le_of_lt H2.out.lt) (.cells #[.int .i64 E, .string ⟨M.toArray⟩, .string ⟨R.toArray⟩] 57))
  have hq3 : q < (w2.alloc (.cells #[.int .i64 E, .string ⟨M.toArray⟩, .string ⟨R.toArray⟩] 57)).heap.size := by simp; omega
  have g1 : (w2.alloc (.cells #[.int .i64 E, .string ⟨M.toArray⟩, .string ⟨R.toArray⟩] 57)).cell? ⟨q, 1, none⟩ = some (.string ⟨y.toArray⟩) := (((Below.refl _ w2).alloc (Nat.le_refl _) _).cell (p := ⟨q, 1, none⟩) hq2).trans e1
  have g2 : (w2.alloc (.cells #[.int .i64 E, .string ⟨M.toArray⟩, .string ⟨R.toArray⟩] 57)).cell? ⟨q, 2, none⟩ = some (.string ⟨v.toArray⟩) := (((Below.refl _ w2).alloc (Nat.le_refl _) _).cell (p := ⟨q, 2, none⟩) hq2).trans e2
  generalize hu : w2.alloc (.cells #[.int .i64 E, .string ⟨M.toArray⟩, .string ⟨R.toArray⟩] 57) = u at *
  clear hu e1 e2 H2 HB2 hb2 hbb hq2
  obtain ⟨i0, hi, hz0, hz1, hz2⟩ := info_three info_rneed
  have k5 := (row_cell H3.out.blk 3).trans (show _ = some (sl 0) from rfl)
  have f5 := row_free H3.out.blk 3
  obtain ⟨m, xs, hmx⟩ : ∃ m xs, rrow st 0 = (m, xs) := ⟨_, _, rfl⟩
  have hm1 : m ≤ 2000 := by have := congrArg Prod.fst hmx; simp only [rrow] at this; omega
  have own3 := H3.out.own 0
  rw [hmx] at own3
  have own3' : (u.drew).ownsRow (ab + 1) 104 2 (sl 0) m xs := own3
  have HMX := hide hmx
  have hlu := H3.out.lt
  clear hmx own3
  go_region_law (refine step_append_own rfl _ _ 42 rfl (ab + 1) 104 i0 _ 2 32 Tryz.underlying42 hi hz0 hz1 hz2 rfl (by decide) (sl 0) m xs rfl (own3'.alloc _) ⟨u.heap.size, 0, none⟩ 1 1 [_, _] (by simp [Act.eval]) rfl (cell_two_new _ _ _ _) (fun x hx => by simp at hx; rcases hx with rfl | rfl <;> rfl) (by unfold maxLen; omega) (by omega) (by simp; omega) ?_; intro v' w4 hown' hgrow4 hnil4 hblk4; obtain ⟨gv, cv, rfl⟩ := own_form hown' (by omega); have hk4 := RIn.kept (H3.out.drew.alloc _) 0 hgrow4; have q5 := (row_cell hk4 3).trans (show _ = some (sl 0) from rfl); have g5 := row_free hk4 3; have O4 := hide hown'; have G4 := hide hgrow4; have B4 := hide hblk4; clear hown' hgrow4 hnil4 hblk4 hk4)
  all_goals
    have hprow : rrow { st with needs := st.needs ++ [(y, v)] } 0 = (m + 1, xs ++ [.string ⟨y.toArray⟩, .string ⟨v.toArray⟩]) := by
      have := HMX.out
      simp only [rrow, Prod.mk.injEq] at this ⊢
      rw [← this.1, ← this.2]; simp [pairV, strV]
    have hown2 : w4.ownsRow (ab + 1) (rty 0) (rsz 0) (.slice (some ⟨gv, 0, none⟩) (m + 1) cv) (rrow { st with needs := st.needs ++ [(y, v)] } 0).1 (rrow { st with needs := st.needs ++ [(y, v)] } 0).2 := by rw [hprow]; exact O4.out
    have HP5 := hide (RIn.put (H3.out.drew.alloc _) 0 (by decide) G4.out hown2 B4.out (fun j hj => by
      match j, hj with
      | 0, h => exact absurd rfl h
      | 1, _ => rfl
      | 2, _ => rfl
      | 3, _ => rfl
      | 4, _ => rfl
      | 5, _ => rfl
      | 6, _ => rfl
      | 7, _ => rfl) rfl rfl)
    have HB5 : Hid (Below ab w (w4.setCell ⟨ab, 3, none⟩ (.slice (some ⟨gv, 0, none⟩) (m + 1) cv))) := hide (((show Below ab w w4 from ((HB.out.drew.alloc (by show ab ≤ u.heap.size; omega) _).grown G4.out (by simp; omega) (fun k hk => by have := ((H3.out.own 0).lt k hk).1; omega)))).setCell (p := ⟨ab, 3, none⟩) (Nat.le_refl ab) _)
    clear hown2 hprow O4 G4 B4
    go_wp2_with fail
    exact bodyPost_ret (v := .tuple #[s6, s7, .bool (Ver.fine v)]) (by simp [results, Tryz.results23, go_sem]) rfl ⟨rfl, ⟨_, HP5.out, rfl, rfl⟩, HB5.out⟩
end Go.Proofs.YtgdmgmklncmanaaGreatDoor
