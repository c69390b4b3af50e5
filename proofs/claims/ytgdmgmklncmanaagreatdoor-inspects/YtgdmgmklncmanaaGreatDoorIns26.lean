/- Of Ins: RlW5. -/
import Derived.Test.YtgdmgmklncmanaaGreatDoorIns22
import Derived.Test.YtgdmgmklncmanaaGreatDoorIns25
/- The walks over a line, the document's own answer: commands. (Written by tools/gen_rlw5.py.) -/
namespace Go.Proofs.YtgdmgmklncmanaaGreatDoor
open Go.RowKit
open Arc (RSt RCmd S)

theorem info_rcmd : (Tryz.prog.info? 106).map (fun i => (i.zero, i.size, i.bytes)) = some (some (.agg #[.string ByteArray.empty, .string ByteArray.empty, .string ByteArray.empty, .string ByteArray.empty]), 4, 64) := by kernel_rfl
/-- The words behind the first, as a command: whatever the slice's place where they are too few. -/
theorem rcommand_rest (q c : Nat) (rest : List S) (hw : ∀ x ∈ rest, x.length ≤ 2000) (n : Nat) (hn : rest.length = n) (woken : Bool) (w : World) (hq : q < w.heap.size) (hc : ∀ j x, rest[j]? = some x → w.cell? ⟨q, 1 + j, none⟩ = some (.string ⟨x.toArray⟩)) (v1 v2 v3 v4 : S) (ok : Bool) (hrc : Arc.rcmd woken rest = (⟨v1, v2, v3, v4⟩, ok)) (ao : Option Addr) (hao : 2 ≤ n → ao = some ⟨q, 1, none⟩) :
    Calls Tryz.prog 49 #[.slice ao n c, .bool woken] w fun e w' => e = .returned (.tuple #[.agg #[.string ⟨v1.toArray⟩, .string ⟨v2.toArray⟩, .string ⟨v3.toArray⟩, .string ⟨v4.toArray⟩], .bool ok]) ∧ Below w.heap.size w w' := by
  subst hn
  have := rcommand_any ao q 1 c rest hw woken w (fun h => ⟨hao h, hq⟩) hc
  rw [hrc] at this
  exact this

set_option maxRecDepth 100000 in
set_option maxHeartbeats 2000000 in
theorem rl_run (ab q n c : Nat) (tx : S) (st : RSt) (sl : Fin 8 → Value) (x : S) (rest : List S) (hw : ∀ x ∈ rest, x.length ≤ 2000) (hn : rest.length + 1 = n) (hcne : ¬ c = 1) (hnc : n ≤ c) (v1 v2 v3 v4 : S) (ok : Bool) (hrc : Arc.rcmd false rest = (⟨v1, v2, v3, v4⟩, ok)) (hk : rkd x = 7) (hrl : st.runs.length ≤ 2000) (s6 s7 : Value) (w : World) (h : RIn ab tx st sl w) (hq : q < w.heap.size) (hqa : q ≠ ab) (c0 : w.cell? ⟨q, 0, none⟩ = some (.string ⟨x.toArray⟩))
    (cr : ∀ j y, rest[j]? = some y → w.cell? ⟨q, 1 + j, none⟩ = some (.string ⟨y.toArray⟩)) :
    Calls Tryz.prog 23 #[.pointer (some ⟨ab, 0, none⟩), .slice (some ⟨q, 0, none⟩) n c, s6, s7] w fun e w' => e = .returned (.tuple #[s6, s7, .bool ok]) ∧ (∃ sl', RIn ab tx { st with runs := st.runs ++ [⟨v1, v2, v3, v4⟩] } sl' w' ∧ sl' 6 = sl 6 ∧ sl' 7 = sl 7) ∧ Below ab w w' := by
  obtain ⟨i0, hi, hz0, hz1, hz2⟩ := info_three info_rcmd
  have HK := hide hk
  have H := hide h
  have HRC := hide hrc
  have HCR := hide cr
  have HW := hide hw
  have hlt := h.lt
  obtain ⟨n1, hn1⟩ : ∃ n1, rest.length = n1 := ⟨_, rfl⟩
  have HN1 := hide hn1
  rw [hn1] at hn
  clear hk h hrc cr hw hn1
  obtain rfl : n = n1 + 1 := hn.symm
  have hqa' : ¬ ab = q := fun e => hqa e.symm
  have hi0 : (0 : Int) < ((n1 + 1 : Nat) : Int) := by omega
  have hi1 : (1 : Int) ≤ ((n1 + 1 : Nat) : Int) := by omega
  have hi2 : ((n1 + 1 : Nat) : Int) ≤ (c : Int) := by omega
  have hi3 : (1 : Int) ≤ (c : Int) := by omega
  clear hn
  go_enter Tryz.func23, Tryz.ntmps23
  go_wp2_with (first
    | (go_at_call 22; refine (rkind_any x _).mono ?_; rintro e w1 ⟨he, hb1⟩; rw [HK.out] at he; subst he; have H1 := hide (H.out.below hb1); have HB := hide (hb1.mono (Nat.le_of_lt hlt)); have hq1 : q < w1.heap.size := Nat.lt_of_lt_of_le hq hb1.size; have HC1 : Hid (∀ j y, rest[j]? = some y → w1.cell? ⟨q, 1 + j, none⟩ = some (.string ⟨y.toArray⟩)) := hide (fun j y hy => (hb1.cell (p := ⟨q, 1 + j, none⟩) hq).trans (HCR.out j y hy)); clear hb1)
    | (go_at_call 49; refine (rcommand_rest q _ rest HW.out _ HN1.out false _ hq1 HC1.out v1 v2 v3 v4 ok HRC.out _ (fun h2 => by first | rfl | (exfalso; omega))).mono ?_; rintro e w2 ⟨rfl, hb2⟩; have H2 := hide (H1.out.below hb2); have HB2 := hide (HB.out.trans (hb2.mono (Nat.le_of_lt H1.out.lt))); clear hb2))
  have H3 := hide (H2.out.alloc (.cells #[.string ⟨v1.toArray⟩, .string ⟨v2.toArray⟩, .string ⟨v3.toArray⟩, .string ⟨v4.toArray⟩] 106))
  have HB3 := hide (HB2.out.alloc (Nat.le_of_lt H2.out.lt) (.cells #[.string ⟨v1.toArray⟩, .string ⟨v2.toArray⟩, .string ⟨v3.toArray⟩, .string ⟨v4.toArray⟩] 106))
  have hfb := heap_alloc_new w2 (.cells #[.string ⟨v1.toArray⟩, .string ⟨v2.toArray⟩, .string ⟨v3.toArray⟩, .string ⟨v4.toArray⟩] 106)
  have hus : (w2.alloc (.cells #[.string ⟨v1.toArray⟩, .string ⟨v2.toArray⟩, .string ⟨v3.toArray⟩, .string ⟨v4.toArray⟩] 106)).heap.size = w2.heap.size + 1 := by simp
  have hl2 := H2.out.lt
  obtain ⟨fb, hfbe⟩ : ∃ fb, w2.heap.size = fb := ⟨_, rfl⟩
  generalize hu : w2.alloc (.cells #[.string ⟨v1.toArray⟩, .string ⟨v2.toArray⟩, .string ⟨v3.toArray⟩, .string ⟨v4.toArray⟩] 106) = u at *
  rw [hfbe] at hfb hus hl2 ⊢
  clear hu hfbe H2 HB2
  obtain ⟨l0, l1, l2, l3, -⟩ := four_free hfb
  have hne2 : ¬ fb = ab := by omega
  have hne3 : ¬ ab = fb := by omega
  obtain ⟨i0, hi, hz0, hz1, hz2⟩ := info_three info_rcmd
  have k5 := (row_cell H3.out.blk 7).trans (show _ = some (sl 4) from rfl)
  have f5 := row_free H3.out.blk 7
  obtain ⟨m, xs, hmx⟩ : ∃ m xs, rrow st 4 = (m, xs) := ⟨_, _, rfl⟩
  have hm1 : m ≤ 2000 := by have := congrArg Prod.fst hmx; simp only [rrow] at this; omega
  have own3 := H3.out.own 4
  rw [hmx] at own3
  have own3' : (u.drew).ownsRow (ab + 1) 106 4 (sl 4) m xs := own3
  have HMX := hide hmx
  have hlu := H3.out.lt
  clear hmx own3
  go_region_law (refine step_append_own rfl _ _ 44 rfl (ab + 1) 106 i0 _ 4 64 Tryz.underlying44 hi hz0 hz1 hz2 rfl (by decide) (sl 4) m xs rfl (own3'.alloc _) ⟨u.heap.size, 0, none⟩ 1 1 [_, _, _, _] (by simp [Act.eval]) rfl (cell_four_new _ _ _ _ _ _) (fun x hx => by simp at hx; rcases hx with rfl | rfl | rfl | rfl <;> rfl) (by unfold maxLen; omega) (by omega) (by simp; omega) ?_; intro v' w4 hown' hgrow4 hnil4 hblk4; obtain ⟨gv, cv, rfl⟩ := own_form hown' (by omega); have hk4 := RIn.kept (H3.out.drew.alloc _) 4 hgrow4; have q5 := (row_cell hk4 7).trans (show _ = some (sl 4) from rfl); have g5 := row_free hk4 7; have O4 := hide hown'; have G4 := hide hgrow4; have B4 := hide hblk4; clear hown' hgrow4 hnil4 hblk4 hk4)
  all_goals
    have hprow : rrow { st with runs := st.runs ++ [⟨v1, v2, v3, v4⟩] } 4 = (m + 1, xs ++ [.string ⟨v1.toArray⟩, .string ⟨v2.toArray⟩, .string ⟨v3.toArray⟩, .string ⟨v4.toArray⟩]) := by
      have := HMX.out
      simp only [rrow, Prod.mk.injEq] at this ⊢
      rw [← this.1, ← this.2]; simp [rcmdV]
    have hown2 : w4.ownsRow (ab + 1) (rty 4) (rsz 4) (.slice (some ⟨gv, 0, none⟩) (m + 1) cv) (rrow { st with runs := st.runs ++ [⟨v1, v2, v3, v4⟩] } 4).1 (rrow { st with runs := st.runs ++ [⟨v1, v2, v3, v4⟩] } 4).2 := by rw [hprow]; exact O4.out
    have HP5 := hide (RIn.put (H3.out.drew.alloc _) 4 (by decide) G4.out hown2 B4.out (fun j hj => by
      match j, hj with
      | 0, _ => rfl
      | 1, _ => rfl
      | 2, _ => rfl
      | 3, _ => rfl
      | 4, h => exact absurd rfl h
      | 5, _ => rfl
      | 6, _ => rfl
      | 7, _ => rfl) rfl rfl)
    have HB5 : Hid (Below ab w (w4.setCell ⟨ab, 7, none⟩ (.slice (some ⟨gv, 0, none⟩) (m + 1) cv))) := hide (((show Below ab w w4 from ((HB3.out.drew.alloc (by show ab ≤ u.heap.size; omega) _).grown G4.out (by simp; omega) (fun k hk => by have := ((H3.out.own 4).lt k hk).1; omega)))).setCell (p := ⟨ab, 7, none⟩) (Nat.le_refl ab) _)
    clear hown2 hprow O4 G4 B4
    go_wp2_with fail
    exact bodyPost_ret (v := .tuple #[s6, s7, .bool ok]) (by simp [results, Tryz.results23, go_sem]) rfl ⟨rfl, ⟨_, HP5.out, rfl, rfl⟩, HB5.out⟩

set_option maxRecDepth 100000 in
set_option maxHeartbeats 2000000 in
theorem rl_run_few (ab q n c : Nat) (tx : S) (st : RSt) (sl : Fin 8 → Value) (x : S) (rest : List S) (hw : ∀ x ∈ rest, x.length ≤ 2000) (hn : rest.length + 1 = n) (hc1 : c = 1) (hnc : n ≤ c) (v1 v2 v3 v4 : S) (ok : Bool) (hrc : Arc.rcmd false rest = (⟨v1, v2, v3, v4⟩, ok)) (hk : rkd x = 7) (hrl : st.runs.length ≤ 2000) (s6 s7 : Value) (w : World) (h : RIn ab tx st sl w) (hq : q < w.heap.size) (hqa : q ≠ ab) (c0 : w.cell? ⟨q, 0, none⟩ = some (.string ⟨x.toArray⟩))
    (cr : ∀ j y, rest[j]? = some y → w.cell? ⟨q, 1 + j, none⟩ = some (.string ⟨y.toArray⟩)) :
    Calls Tryz.prog 23 #[.pointer (some ⟨ab, 0, none⟩), .slice (some ⟨q, 0, none⟩) n c, s6, s7] w fun e w' => e = .returned (.tuple #[s6, s7, .bool ok]) ∧ (∃ sl', RIn ab tx { st with runs := st.runs ++ [⟨v1, v2, v3, v4⟩] } sl' w' ∧ sl' 6 = sl 6 ∧ sl' 7 = sl 7) ∧ Below ab w w' := by
  obtain ⟨i0, hi, hz0, hz1, hz2⟩ := info_three info_rcmd
  have HK := hide hk
  have H := hide h
  have HRC := hide hrc
  have HCR := hide cr
  have HW := hide hw
  have hlt := h.lt
  obtain ⟨n1, hn1⟩ : ∃ n1, rest.length = n1 := ⟨_, rfl⟩
  have HN1 := hide hn1
  rw [hn1] at hn
  clear hk h hrc cr hw hn1
  obtain rfl : n = n1 + 1 := hn.symm
  have hqa' : ¬ ab = q := fun e => hqa e.symm
  have hi0 : (0 : Int) < ((n1 + 1 : Nat) : Int) := by omega
  have hi1 : (1 : Int) ≤ ((n1 + 1 : Nat) : Int) := by omega
  have hi2 : ((n1 + 1 : Nat) : Int) ≤ (c : Int) := by omega
  have hi3 : (1 : Int) ≤ (c : Int) := by omega
  subst hc1
  obtain rfl : n1 = 0 := by omega
  clear hn
  go_enter Tryz.func23, Tryz.ntmps23
  go_wp2_with (first
    | (go_at_call 22; refine (rkind_any x _).mono ?_; rintro e w1 ⟨he, hb1⟩; rw [HK.out] at he; subst he; have H1 := hide (H.out.below hb1); have HB := hide (hb1.mono (Nat.le_of_lt hlt)); have hq1 : q < w1.heap.size := Nat.lt_of_lt_of_le hq hb1.size; have HC1 : Hid (∀ j y, rest[j]? = some y → w1.cell? ⟨q, 1 + j, none⟩ = some (.string ⟨y.toArray⟩)) := hide (fun j y hy => (hb1.cell (p := ⟨q, 1 + j, none⟩) hq).trans (HCR.out j y hy)); clear hb1)
    | (go_at_call 49; refine (rcommand_rest q _ rest HW.out _ HN1.out false _ hq1 HC1.out v1 v2 v3 v4 ok HRC.out _ (fun h2 => by first | rfl | (exfalso; omega))).mono ?_; rintro e w2 ⟨rfl, hb2⟩; have H2 := hide (H1.out.below hb2); have HB2 := hide (HB.out.trans (hb2.mono (Nat.le_of_lt H1.out.lt))); clear hb2))
  have H3 := hide (H2.out.alloc (.cells #[.string ⟨v1.toArray⟩, .string ⟨v2.toArray⟩, .string ⟨v3.toArray⟩, .string ⟨v4.toArray⟩] 106))
  have HB3 := hide (HB2.out.alloc (Nat.le_of_lt H2.out.lt) (.cells #[.string ⟨v1.toArray⟩, .string ⟨v2.toArray⟩, .string ⟨v3.toArray⟩, .string ⟨v4.toArray⟩] 106))
  have hfb := heap_alloc_new w2 (.cells #[.string ⟨v1.toArray⟩, .string ⟨v2.toArray⟩, .string ⟨v3.toArray⟩, .string ⟨v4.toArray⟩] 106)
  have hus : (w2.alloc (.cells #[.string ⟨v1.toArray⟩, .string ⟨v2.toArray⟩, .string ⟨v3.toArray⟩, .string ⟨v4.toArray⟩] 106)).heap.size = w2.heap.size + 1 := by simp
  have hl2 := H2.out.lt
  obtain ⟨fb, hfbe⟩ : ∃ fb, w2.heap.size = fb := ⟨_, rfl⟩
  generalize hu : w2.alloc (.cells #[.string ⟨v1.toArray⟩, .string ⟨v2.toArray⟩, .string ⟨v3.toArray⟩, .string ⟨v4.toArray⟩] 106) = u at *
  rw [hfbe] at hfb hus hl2 ⊢
  clear hu hfbe H2 HB2
  obtain ⟨l0, l1, l2, l3, -⟩ := four_free hfb
  have hne2 : ¬ fb = ab := by omega
  have hne3 : ¬ ab = fb := by omega
  obtain ⟨i0, hi, hz0, hz1, hz2⟩ := info_three info_rcmd
  have k5 := (row_cell H3.out.blk 7).trans (show _ = some (sl 4) from rfl)
  have f5 := row_free H3.out.blk 7
  obtain ⟨m, xs, hmx⟩ : ∃ m xs, rrow st 4 = (m, xs) := ⟨_, _, rfl⟩
  have hm1 : m ≤ 2000 := by have := congrArg Prod.fst hmx; simp only [rrow] at this; omega
  have own3 := H3.out.own 4
  rw [hmx] at own3
  have own3' : (u.drew).ownsRow (ab + 1) 106 4 (sl 4) m xs := own3
  have HMX := hide hmx
  have hlu := H3.out.lt
  clear hmx own3
  go_region_law (refine step_append_own rfl _ _ 44 rfl (ab + 1) 106 i0 _ 4 64 Tryz.underlying44 hi hz0 hz1 hz2 rfl (by decide) (sl 4) m xs rfl (own3'.alloc _) ⟨u.heap.size, 0, none⟩ 1 1 [_, _, _, _] (by simp [Act.eval]) rfl (cell_four_new _ _ _ _ _ _) (fun x hx => by simp at hx; rcases hx with rfl | rfl | rfl | rfl <;> rfl) (by unfold maxLen; omega) (by omega) (by simp; omega) ?_; intro v' w4 hown' hgrow4 hnil4 hblk4; obtain ⟨gv, cv, rfl⟩ := own_form hown' (by omega); have hk4 := RIn.kept (H3.out.drew.alloc _) 4 hgrow4; have q5 := (row_cell hk4 7).trans (show _ = some (sl 4) from rfl); have g5 := row_free hk4 7; have O4 := hide hown'; have G4 := hide hgrow4; have B4 := hide hblk4; clear hown' hgrow4 hnil4 hblk4 hk4)
  all_goals
    have hprow : rrow { st with runs := st.runs ++ [⟨v1, v2, v3, v4⟩] } 4 = (m + 1, xs ++ [.string ⟨v1.toArray⟩, .string ⟨v2.toArray⟩, .string ⟨v3.toArray⟩, .string ⟨v4.toArray⟩]) := by
      have := HMX.out
      simp only [rrow, Prod.mk.injEq] at this ⊢
      rw [← this.1, ← this.2]; simp [rcmdV]
    have hown2 : w4.ownsRow (ab + 1) (rty 4) (rsz 4) (.slice (some ⟨gv, 0, none⟩) (m + 1) cv) (rrow { st with runs := st.runs ++ [⟨v1, v2, v3, v4⟩] } 4).1 (rrow { st with runs := st.runs ++ [⟨v1, v2, v3, v4⟩] } 4).2 := by rw [hprow]; exact O4.out
    have HP5 := hide (RIn.put (H3.out.drew.alloc _) 4 (by decide) G4.out hown2 B4.out (fun j hj => by
      match j, hj with
      | 0, _ => rfl
      | 1, _ => rfl
      | 2, _ => rfl
      | 3, _ => rfl
      | 4, h => exact absurd rfl h
      | 5, _ => rfl
      | 6, _ => rfl
      | 7, _ => rfl) rfl rfl)
    have HB5 : Hid (Below ab w (w4.setCell ⟨ab, 7, none⟩ (.slice (some ⟨gv, 0, none⟩) (m + 1) cv))) := hide (((show Below ab w w4 from ((HB3.out.drew.alloc (by show ab ≤ u.heap.size; omega) _).grown G4.out (by simp; omega) (fun k hk => by have := ((H3.out.own 4).lt k hk).1; omega)))).setCell (p := ⟨ab, 7, none⟩) (Nat.le_refl ab) _)
    clear hown2 hprow O4 G4 B4
    go_wp2_with fail
    exact bodyPost_ret (v := .tuple #[s6, s7, .bool ok]) (by simp [results, Tryz.results23, go_sem]) rfl ⟨rfl, ⟨_, HP5.out, rfl, rfl⟩, HB5.out⟩

set_option maxRecDepth 100000 in
set_option maxHeartbeats 2000000 in
theorem rl_woken (ab q n c : Nat) (tx : S) (st : RSt) (sl : Fin 8 → Value) (x : S) (rest : List S) (hw : ∀ x ∈ rest, x.length ≤ 2000) (hn : rest.length + 1 = n) (hcne : ¬ c = 1) (hnc : n ≤ c) (v1 v2 v3 v4 : S) (ok : Bool) (hrc : Arc.rcmd true rest = (⟨v1, v2, v3, v4⟩, ok)) (hk : rkd x = 8) (hrl : st.wokens.length ≤ 2000) (s6 s7 : Value) (w : World) (h : RIn ab tx st sl w) (hq : q < w.heap.size) (hqa : q ≠ ab) (c0 : w.cell? ⟨q, 0, none⟩ = some (.string ⟨x.toArray⟩))
    (cr : ∀ j y, rest[j]? = some y → w.cell? ⟨q, 1 + j, none⟩ = some (.string ⟨y.toArray⟩)) :
    Calls Tryz.prog 23 #[.pointer (some ⟨ab, 0, none⟩), .slice (some ⟨q, 0, none⟩) n c, s6, s7] w fun e w' => e = .returned (.tuple #[s6, s7, .bool ok]) ∧ (∃ sl', RIn ab tx { st with wokens := st.wokens ++ [⟨v1, v2, v3, v4⟩] } sl' w' ∧ sl' 6 = sl 6 ∧ sl' 7 = sl 7) ∧ Below ab w w' := by
  obtain ⟨i0, hi, hz0, hz1, hz2⟩ := info_three info_rcmd
  have HK := hide hk
  have H := hide h
  have HRC := hide hrc
  have HCR := hide cr
  have HW := hide hw
  have hlt := h.lt
  obtain ⟨n1, hn1⟩ : ∃ n1, rest.length = n1 := ⟨_, rfl⟩
  have HN1 := hide hn1
  rw [hn1] at hn
  clear hk h hrc cr hw hn1
  obtain rfl : n = n1 + 1 := hn.symm
  have hqa' : ¬ ab = q := fun e => hqa e.symm
  have hi0 : (0 : Int) < ((n1 + 1 : Nat) : Int) := by omega
  have hi1 : (1 : Int) ≤ ((n1 + 1 : Nat) : Int) := by omega
  have hi2 : ((n1 + 1 : Nat) : Int) ≤ (c : Int) := by omega
  have hi3 : (1 : Int) ≤ (c : Int) := by omega
  clear hn
  go_enter Tryz.func23, Tryz.ntmps23
  go_wp2_with (first
    | (go_at_call 22; refine (rkind_any x _).mono ?_; rintro e w1 ⟨he, hb1⟩; rw [HK.out] at he; subst he; have H1 := hide (H.out.below hb1); have HB := hide (hb1.mono (Nat.le_of_lt hlt)); have hq1 : q < w1.heap.size := Nat.lt_of_lt_of_le hq hb1.size; have HC1 : Hid (∀ j y, rest[j]? = some y → w1.cell? ⟨q, 1 + j, none⟩ = some (.string ⟨y.toArray⟩)) := hide (fun j y hy => (hb1.cell (p := ⟨q, 1 + j, none⟩) hq).trans (HCR.out j y hy)); clear hb1)
    | (go_at_call 49; refine (rcommand_rest q _ rest HW.out _ HN1.out true _ hq1 HC1.out v1 v2 v3 v4 ok HRC.out _ (fun h2 => by first | rfl | (exfalso; omega))).mono ?_; rintro e w2 ⟨rfl, hb2⟩; have H2 := hide (H1.out.below hb2); have HB2 := hide (HB.out.trans (hb2.mono (Nat.le_of_lt H1.out.lt))); clear hb2))
  have H3 := hide (H2.out.alloc (.cells #[.string ⟨v1.toArray⟩, .string ⟨v2.toArray⟩, .string ⟨v3.toArray⟩, .string ⟨v4.toArray⟩] 106))
  have HB3 := hide (HB2.out.alloc (Nat.le_of_lt H2.out.lt) (.cells #[.string ⟨v1.toArray⟩, .string ⟨v2.toArray⟩, .string ⟨v3.toArray⟩, .string ⟨v4.toArray⟩] 106))
  have hfb := heap_alloc_new w2 (.cells #[.string ⟨v1.toArray⟩, .string ⟨v2.toArray⟩, .string ⟨v3.toArray⟩, .string ⟨v4.toArray⟩] 106)
  have hus : (w2.alloc (.cells #[.string ⟨v1.toArray⟩, .string ⟨v2.toArray⟩, .string ⟨v3.toArray⟩, .string ⟨v4.toArray⟩] 106)).heap.size = w2.heap.size + 1 := by simp
  have hl2 := H2.out.lt
  obtain ⟨fb, hfbe⟩ : ∃ fb, w2.heap.size = fb := ⟨_, rfl⟩
  generalize hu : w2.alloc (.cells #[.string ⟨v1.toArray⟩, .string ⟨v2.toArray⟩, .string ⟨v3.toArray⟩, .string ⟨v4.toArray⟩] 106) = u at *
  rw [hfbe] at hfb hus hl2 ⊢
  clear hu hfbe H2 HB2
  obtain ⟨l0, l1, l2, l3, -⟩ := four_free hfb
  have hne2 : ¬ fb = ab := by omega
  have hne3 : ¬ ab = fb := by omega
  obtain ⟨i0, hi, hz0, hz1, hz2⟩ := info_three info_rcmd
  have k5 := (row_cell H3.out.blk 8).trans (show _ = some (sl 5) from rfl)
  have f5 := row_free H3.out.blk 8
  obtain ⟨m, xs, hmx⟩ : ∃ m xs, rrow st 5 = (m, xs) := ⟨_, _, rfl⟩
  have hm1 : m ≤ 2000 := by have := congrArg Prod.fst hmx; simp only [rrow] at this; omega
  have own3 := H3.out.own 5
  rw [hmx] at own3
  have own3' : (u.drew).ownsRow (ab + 1) 106 4 (sl 5) m xs := own3
  have HMX := hide hmx
  have hlu := H3.out.lt
  clear hmx own3
  go_region_law (refine step_append_own rfl _ _ 44 rfl (ab + 1) 106 i0 _ 4 64 Tryz.underlying44 hi hz0 hz1 hz2 rfl (by decide) (sl 5) m xs rfl (own3'.alloc _) ⟨u.heap.size, 0, none⟩ 1 1 [_, _, _, _] (by simp [Act.eval]) rfl (cell_four_new _ _ _ _ _ _) (fun x hx => by simp at hx; rcases hx with rfl | rfl | rfl | rfl <;> rfl) (by unfold maxLen; omega) (by omega) (by simp; omega) ?_; intro v' w4 hown' hgrow4 hnil4 hblk4; obtain ⟨gv, cv, rfl⟩ := own_form hown' (by omega); have hk4 := RIn.kept (H3.out.drew.alloc _) 5 hgrow4; have q5 := (row_cell hk4 8).trans (show _ = some (sl 5) from rfl); have g5 := row_free hk4 8; have O4 := hide hown'; have G4 := hide hgrow4; have B4 := hide hblk4; clear hown' hgrow4 hnil4 hblk4 hk4)
  all_goals
    have hprow : rrow { st with wokens := st.wokens ++ [⟨v1, v2, v3, v4⟩] } 5 = (m + 1, xs ++ [.string ⟨v1.toArray⟩, .string ⟨v2.toArray⟩, .string ⟨v3.toArray⟩, .string ⟨v4.toArray⟩]) := by
      have := HMX.out
      simp only [rrow, Prod.mk.injEq] at this ⊢
      rw [← this.1, ← this.2]; simp [rcmdV]
    have hown2 : w4.ownsRow (ab + 1) (rty 5) (rsz 5) (.slice (some ⟨gv, 0, none⟩) (m + 1) cv) (rrow { st with wokens := st.wokens ++ [⟨v1, v2, v3, v4⟩] } 5).1 (rrow { st with wokens := st.wokens ++ [⟨v1, v2, v3, v4⟩] } 5).2 := by rw [hprow]; exact O4.out
    have HP5 := hide (RIn.put (H3.out.drew.alloc _) 5 (by decide) G4.out hown2 B4.out (fun j hj => by
      match j, hj with
      | 0, _ => rfl
      | 1, _ => rfl
      | 2, _ => rfl
      | 3, _ => rfl
      | 4, _ => rfl
      | 5, h => exact absurd rfl h
      | 6, _ => rfl
      | 7, _ => rfl) rfl rfl)
    have HB5 : Hid (Below ab w (w4.setCell ⟨ab, 8, none⟩ (.slice (some ⟨gv, 0, none⟩) (m + 1) cv))) := hide (((show Below ab w w4 from ((HB3.out.drew.alloc (by show ab ≤ u.heap.size; omega) _).grown G4.out (by simp; omega) (fun k hk => by have := ((H3.out.own 5).lt k hk).1; omega)))).setCell (p := ⟨ab, 8, none⟩) (Nat.le_refl ab) _)
    clear hown2 hprow O4 G4 B4
    go_wp2_with fail
    exact bodyPost_ret (v := .tuple #[s6, s7, .bool ok]) (by simp [results, Tryz.results23, go_sem]) rfl ⟨rfl, ⟨_, HP5.out, rfl, rfl⟩, HB5.out⟩

set_option maxRecDepth 100000 in
set_option maxHeartbeats 2000000 in
theorem rl_woken_few (ab q n c : Nat) (tx : S) (st : RSt) (sl : Fin 8 → Value) (x : S) (rest : List S) (hw : ∀ x ∈ rest, x.length ≤ 2000) (hn : rest.length + 1 = n) (hc1 : c = 1) (hnc : n ≤ c) (v1 v2 v3 v4 : S) (ok : Bool) (hrc : Arc.rcmd true rest = (⟨v1, v2, v3, v4⟩, ok)) (hk : rkd x = 8) (hrl : st.wokens.length ≤ 2000) (s6 s7 : Value) (w : World) (h : RIn ab tx st sl w) (hq : q < w.heap.size) (hqa : q ≠ ab) (c0 : w.cell? ⟨q, 0, none⟩ = some (.string ⟨x.toArray⟩))
    (cr : ∀ j y, rest[j]? = some y → w.cell? ⟨q, 1 + j, none⟩ = some (.string ⟨y.toArray⟩)) :
    Calls Tryz.prog 23 #[.pointer (some ⟨ab, 0, none⟩), .slice (some ⟨q, 0, none⟩) n c, s6, s7] w fun e w' => e = .returned (.tuple #[s6, s7, .bool ok]) ∧ (∃ sl', RIn ab tx { st with wokens := st.wokens ++ [⟨v1, v2, v3, v4⟩] } sl' w' ∧ sl' 6 = sl 6 ∧ sl' 7 = sl 7) ∧ Below ab w w' := by
  obtain ⟨i0, hi, hz0, hz1, hz2⟩ := info_three info_rcmd
  have HK := hide hk
  have H := hide h
  have HRC := hide hrc
  have HCR := hide cr
  have HW := hide hw
  have hlt := h.lt
  obtain ⟨n1, hn1⟩ : ∃ n1, rest.length = n1 := ⟨_, rfl⟩
  have HN1 := hide hn1
  rw [hn1] at hn
  clear hk h hrc cr hw hn1
  obtain rfl : n = n1 + 1 := hn.symm
  have hqa' : ¬ ab = q := fun e => hqa e.symm
  have hi0 : (0 : Int) < ((n1 + 1 : Nat) : Int) := by omega
  have hi1 : (1 : Int) ≤ ((n1 + 1 : Nat) : Int) := by omega
  have hi2 : ((n1 + 1 : Nat) : Int) ≤ (c : Int) := by omega
  have hi3 : (1 : Int) ≤ (c : Int) := by omega
  subst hc1
  obtain rfl : n1 = 0 := by omega
  clear hn
  go_enter Tryz.func23, Tryz.ntmps23
  go_wp2_with (first
    | (go_at_call 22; refine (rkind_any x _).mono ?_; rintro e w1 ⟨he, hb1⟩; rw [HK.out] at he; subst he; have H1 := hide (H.out.below hb1); have HB := hide (hb1.mono (Nat.le_of_lt hlt)); have hq1 : q < w1.heap.size := Nat.lt_of_lt_of_le hq hb1.size; have HC1 : Hid (∀ j y, rest[j]? = some y → w1.cell? ⟨q, 1 + j, none⟩ = some (.string ⟨y.toArray⟩)) := hide (fun j y hy => (hb1.cell (p := ⟨q, 1 + j, none⟩) hq).trans (HCR.out j y hy)); clear hb1)
    | (go_at_call 49; refine (rcommand_rest q _ rest HW.out _ HN1.out true _ hq1 HC1.out v1 v2 v3 v4 ok HRC.out _ (fun h2 => by first | rfl | (exfalso; omega))).mono ?_; rintro e w2 ⟨rfl, hb2⟩; have H2 := hide (H1.out.below hb2); have HB2 := hide (HB.out.trans (hb2.mono (Nat.le_of_lt H1.out.lt))); clear hb2))
  have H3 := hide (H2.out.alloc (.cells #[.string ⟨v1.toArray⟩, .string ⟨v2.toArray⟩, .string ⟨v3.toArray⟩, .string ⟨v4.toArray⟩] 106))
  have HB3 := hide (HB2.out.alloc (Nat.le_of_lt H2.out.lt) (.cells #[.string ⟨v1.toArray⟩, .string ⟨v2.toArray⟩, .string ⟨v3.toArray⟩, .string ⟨v4.toArray⟩] 106))
  have hfb := heap_alloc_new w2 (.cells #[.string ⟨v1.toArray⟩, .string ⟨v2.toArray⟩, .string ⟨v3.toArray⟩, .string ⟨v4.toArray⟩] 106)
  have hus : (w2.alloc (.cells #[.string ⟨v1.toArray⟩, .string ⟨v2.toArray⟩, .string ⟨v3.toArray⟩, .string ⟨v4.toArray⟩] 106)).heap.size = w2.heap.size + 1 := by simp
  have hl2 := H2.out.lt
  obtain ⟨fb, hfbe⟩ : ∃ fb, w2.heap.size = fb := ⟨_, rfl⟩
  generalize hu : w2.alloc (.cells #[.string ⟨v1.toArray⟩, .string ⟨v2.toArray⟩, .string ⟨v3.toArray⟩, .string ⟨v4.toArray⟩] 106) = u at *
  rw [hfbe] at hfb hus hl2 ⊢
  clear hu hfbe H2 HB2
  obtain ⟨l0, l1, l2, l3, -⟩ := four_free hfb
  have hne2 : ¬ fb = ab := by omega
  have hne3 : ¬ ab = fb := by omega
  obtain ⟨i0, hi, hz0, hz1, hz2⟩ := info_three info_rcmd
  have k5 := (row_cell H3.out.blk 8).trans (show _ = some (sl 5) from rfl)
  have f5 := row_free H3.out.blk 8
  obtain ⟨m, xs, hmx⟩ : ∃ m xs, rrow st 5 = (m, xs) := ⟨_, _, rfl⟩
  have hm1 : m ≤ 2000 := by have := congrArg Prod.fst hmx; simp only [rrow] at this; omega
  have own3 := H3.out.own 5
  rw [hmx] at own3
  have own3' : (u.drew).ownsRow (ab + 1) 106 4 (sl 5) m xs := own3
  have HMX := hide hmx
  have hlu := H3.out.lt
  clear hmx own3
  go_region_law (refine step_append_own rfl _ _ 44 rfl (ab + 1) 106 i0 _ 4 64 Tryz.underlying44 hi hz0 hz1 hz2 rfl (by decide) (sl 5) m xs rfl (own3'.alloc _) ⟨u.heap.size, 0, none⟩ 1 1 [_, _, _, _] (by simp [Act.eval]) rfl (cell_four_new _ _ _ _ _ _) (fun x hx => by simp at hx; rcases hx with rfl | rfl | rfl | rfl <;> rfl) (by unfold maxLen; omega) (by omega) (by simp; omega) ?_; intro v' w4 hown' hgrow4 hnil4 hblk4; obtain ⟨gv, cv, rfl⟩ := own_form hown' (by omega); have hk4 := RIn.kept (H3.out.drew.alloc _) 5 hgrow4; have q5 := (row_cell hk4 8).trans (show _ = some (sl 5) from rfl); have g5 := row_free hk4 8; have O4 := hide hown'; have G4 := hide hgrow4; have B4 := hide hblk4; clear hown' hgrow4 hnil4 hblk4 hk4)
  all_goals
    have hprow : rrow { st with wokens := st.wokens ++ [⟨v1, v2, v3, v4⟩] } 5 = (m + 1, xs ++ [.string ⟨v1.toArray⟩, .string ⟨v2.toArray⟩, .string ⟨v3.toArray⟩, .string ⟨v4.toArray⟩]) := by
      have := HMX.out
      simp only [rrow, Prod.mk.injEq] at this ⊢
      rw [← this.1, ← this.2]; simp [rcmdV]
    have hown2 : w4.ownsRow (ab + 1) (rty 5) (rsz 5) (.slice (some ⟨gv, 0, none⟩) (m + 1) cv) (rrow { st with wokens := st.wokens ++ [⟨v1, v2, v3, v4⟩] } 5).1 (rrow { st with wokens := st.wokens ++ [⟨v1, v2, v3, v4⟩] } 5).2 := by rw [hprow]; exact O4.out
    have HP5 := hide (RIn.put (H3.out.drew.alloc _) 5 (by decide) G4.out hown2 B4.out (fun j hj => by
      match j, hj with
      | 0, _ => rfl
      | 1, _ => rfl
      | 2, _ => rfl
      | 3, _ => rfl
      | 4, _ => rfl
      | 5, h => exact absurd rfl h
      | 6, _ => rfl
      | 7, _ => rfl) rfl rfl)
    have HB5 : Hid (Below ab w (w4.setCell ⟨ab, 8, none⟩ (.slice (some ⟨gv, 0, none⟩) (m + 1) cv))) := hide (((show Below ab w w4 from ((HB3.out.drew.alloc (by show ab ≤ u.heap.size; omega) _).grown G4.out (by simp; omega) (fun k hk => by have := ((H3.out.own 5).lt k hk).1; omega)))).setCell (p := ⟨ab, 8, none⟩) (Nat.le_refl ab) _)
    clear hown2 hprow O4 G4 B4
    go_wp2_with fail
    exact bodyPost_ret (v := .tuple #[s6, s7, .bool ok]) (by simp [results, Tryz.results23, go_sem]) rfl ⟨rfl, ⟨_, HP5.out, rfl, rfl⟩, HB5.out⟩
end Go.Proofs.YtgdmgmklncmanaaGreatDoor
