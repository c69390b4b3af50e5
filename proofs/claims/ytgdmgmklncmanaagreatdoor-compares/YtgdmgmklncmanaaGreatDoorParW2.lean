/- The walks over a file's line: the first file. -/
import Derived.Test.YtgdmgmklncmanaaGreatDoorParW1
namespace Go.Proofs.YtgdmgmklncmanaaGreatDoor
open Go.RowKit
open Arc (St Cmd S)

/-- A row of no element. -/
theorem own_none {w : World} {B e size : Nat} {v : Value} {xs : List Value} (h : w.ownsRow B e size v 0 xs) : ∃ ao c, v = .slice ao 0 c := by
  rcases h.2 with ⟨rfl, _⟩ | ⟨g, cap, cur, rfl, _⟩
  · exact ⟨none, 0, rfl⟩
  · exact ⟨some ⟨g, 0, none⟩, cap, rfl⟩

set_option maxHeartbeats 400000 in
theorem indexF_none (ao : Option Addr) (c : Nat) (fv : Value) (w : World) :
    Calls Tryz.prog 134 #[.slice ao 0 c, fv] w fun e w' => e = .returned (.int .i64 (-1)) ∧ Below w.heap.size w w' := by
  go_enter Tryz.func134, Tryz.ntmps134
  go_wp2_with fail
  go_loop [8] (fun i => i = .int .i64 0) (fun _ => 0)
  case atStart => rfl
  case round =>
    subst hrel
    go_wp2_with fail
    go_ret
    exact ⟨rfl, Below.refl _ _⟩
set_option maxHeartbeats 400000 in
theorem containsF_none (ao : Option Addr) (c : Nat) (fv : Value) (w : World) :
    Calls Tryz.prog 123 #[.slice ao 0 c, fv] w fun e w' => e = .returned (.bool false) ∧ Below w.heap.size w w' := by
  go_enter Tryz.func123, Tryz.ntmps123
  go_wp2_with (go_at_call 134; refine (indexF_none _ _ _ _).mono ?_; rintro e w1 ⟨rfl, hb⟩)
  go_ret
  exact ⟨rfl, hb⟩
set_option maxHeartbeats 400000 in
theorem hasFile_none (pb : Nat) (nm ve : S) (st : St) (sl : Fin 6 → Value) (x : S) (w : World) (h : PIn pb nm ve st sl w) (hf : st.files = []) :
    Calls Tryz.prog 112 #[.pointer (some ⟨pb, 0, none⟩), .string ⟨x.toArray⟩] w fun e w' => e = .returned (.bool false) ∧ Below w.heap.size w w' := by
  have hlt := h.lt
  have ho := h.own 3
  rw [show (prow st 3).1 = 0 from by simp [prow, hf]] at ho
  obtain ⟨ao, c, hv⟩ := own_none ho
  have k5 := (row_cell h.blk 5).trans (show _ = some (sl 3) from rfl)
  rw [hv] at k5
  clear ho hv h
  go_enter Tryz.func112, Tryz.ntmps112
  go_wp2_with (go_at_call 123; refine (containsF_none _ _ _ _).mono ?_; rintro e w1 ⟨rfl, hb⟩)
  go_ret
  exact ⟨rfl, ((Below.refl _ _).alloc (Nat.le_refl _) _).trans (hb.mono (by simp))⟩
theorem info_file : (Tryz.prog.info? 102).map (fun i => (i.zero, i.size, i.bytes)) = some (some (.agg #[.string ByteArray.empty, .string ByteArray.empty]), 2, 32) := by kernel_rfl

set_option maxRecDepth 100000 in
set_option maxHeartbeats 1000000 in
theorem file_ok (pb q o c : Nat) (nm ve : S) (st : St) (sl : Fin 6 → Value) (path z hsh : S) (n : Nat) (mx : Int) (K : Nat → Int) (w : World) (h : PIn pb nm ve st sl w) (hp0 : 9 ≤ pb) (hf : st.files = [])
    (hpl : path.length ≤ 2000) (hleft : st.left.length ≤ 2000)
    (h1 : 1 ≤ z.length) (h4 : z.length ≤ 4) (hd : Wd.headIs (fun c => (c.toNat : Int) == 48) z = false) (ht : Lib.trimS z tenD = []) (ha : Lib.atoi z = some (n : Int))
    (hn : n ≤ st.left.length) (hpath : Wd.isPath path = true) (hund : Wd.under path = false) (hsum : short K (st.left.take n) = hsh)
    (hm : w.cell? ⟨0, 0, none⟩ = some (.int .i64 mx)) (hK : ∀ i : Nat, i < 64 → w.cell? ⟨3, i, none⟩ = some (.int .u32 (K i)))
    (c0 : w.cell? ⟨q, o, none⟩ = some (.string ⟨path.toArray⟩)) (c1 : w.cell? ⟨q, o + 1, none⟩ = some (.string ⟨z.toArray⟩)) (c2 : w.cell? ⟨q, o + 2, none⟩ = some (.string ⟨hsh.toArray⟩)) :
    Calls Tryz.prog 94 #[.pointer (some ⟨pb, 0, none⟩), .slice (some ⟨q, o, none⟩) 3 c] w fun e w' => e = .returned (.bool true) ∧
      ∃ sl', PIn pb nm ve { st with files := st.files ++ [(path, st.left.take n)], left := st.left.drop n } sl' w' ∧ Below pb w w' := by
  obtain ⟨i0, hi, hz0, hz1, hz2⟩ := info_three info_file
  have hlt := h.lt
  have H := hide h; clear h
  have HM := hide hm; have HK := hide hK; have HSUM := hide hsum
  clear hm hK hsum
  go_enter Tryz.func94, Tryz.ntmps94
  have e1 : (⟨st.left.toArray⟩ : ByteArray).extract 0 n = ⟨(st.left.take n).toArray⟩ := list_ext_take st.left n
  have e2 : (⟨st.left.toArray⟩ : ByteArray).extract n st.left.length = ⟨(st.left.drop n).toArray⟩ := list_ext_drop st.left n
  have gb : (n : Int) ≤ (st.left.length : Int) := by omega
  go_wp2_with fail
  go_quiet (fail)
  go_wp2_with (first
    | (go_at_call 110; refine (size_ok z n h1 h4 hd ht ha _).mono ?_; rintro e w1 ⟨rfl, hb1⟩; have HP1 := hide ((H.out.drewN nq).below hb1); have k1 := (row_cell HP1.out.blk 8).trans (show _ = some (.string ⟨st.left.toArray⟩) from rfl); have HB1 : Hid (Below w.heap.size w w1) := hide ((below_drewN (Below.refl _ w) nq).trans hb1); clear hb1)
    | (go_at_call 93; refine (isPath_any path hpl mx _ ((HB1.out.cell (p := ⟨0, 0, none⟩) (by show 0 < w.heap.size; omega)).trans HM.out)).mono ?_; rintro e w2 ⟨rfl, hb2⟩; have HP2 := hide (HP1.out.below hb2); have k2 := (row_cell HP2.out.blk 8).trans (show _ = some (.string ⟨st.left.toArray⟩) from rfl); have HB2 := hide (HB1.out.trans (hb2.mono HB1.out.size)); clear hb2)
    | (go_at_call 111; refine (underVar_any path _).mono ?_; rintro e w3 ⟨rfl, rfl⟩)
    | (go_at_call 112; refine (hasFile_none pb nm ve st sl path _ HP2.out hf).mono ?_; rintro e w3 ⟨rfl, hb3⟩; have HP3 := hide (HP2.out.below hb3); have k3 := (row_cell HP3.out.blk 8).trans (show _ = some (.string ⟨st.left.toArray⟩) from rfl); have f3 := row_free HP3.out.blk 8; have hl3 := HP3.out.lt; have HB3 := hide (HB2.out.trans (hb3.mono HB2.out.size)); clear hb3))
  have hfb : ((w3.setCell ⟨pb, 8, none⟩ (.string ⟨(st.left.drop n).toArray⟩)).alloc (.cells #[.string ⟨path.toArray⟩, .string ⟨(st.left.take n).toArray⟩] 102)).heap[w3.heap.size]? = some (.cells #[.string ⟨path.toArray⟩, .string ⟨(st.left.take n).toArray⟩] 102 (0, 0)) := by
    have := heap_alloc_new (w3.setCell ⟨pb, 8, none⟩ (.string ⟨(st.left.drop n).toArray⟩)) (.cells #[.string ⟨path.toArray⟩, .string ⟨(st.left.take n).toArray⟩] 102)
    rwa [show (w3.setCell ⟨pb, 8, none⟩ (.string ⟨(st.left.drop n).toArray⟩)).heap.size = w3.heap.size from by simp] at this
  have P4 := (HP3.out.left (st.left.drop n)).alloc (.cells #[.string ⟨path.toArray⟩, .string ⟨(st.left.take n).toArray⟩] 102)
  have B4 : Below pb w ((w3.setCell ⟨pb, 8, none⟩ (.string ⟨(st.left.drop n).toArray⟩)).alloc (.cells #[.string ⟨path.toArray⟩, .string ⟨(st.left.take n).toArray⟩] 102)) :=
    ((show Below pb w w3 from HB3.out.mono (by omega)).setCell (p := ⟨pb, 8, none⟩) (Nat.le_refl _) _).alloc (by have := HP3.out.lt; simp; omega) _
  have hus : ((w3.setCell ⟨pb, 8, none⟩ (.string ⟨(st.left.drop n).toArray⟩)).alloc (.cells #[.string ⟨path.toArray⟩, .string ⟨(st.left.take n).toArray⟩] 102)).heap.size = w3.heap.size + 1 := by simp
  have hne : some w3.heap.size ≠ (sl 3).ownBlock := fun e => by have := ((HP3.out.own 3).lt _ e.symm).2; omega
  have e0 : strV (st.left.drop n) = .string ⟨(st.left.drop n).toArray⟩ := rfl
  rw [e0] at P4
  obtain ⟨fb, hfbe⟩ : ∃ fb, w3.heap.size = fb := ⟨_, rfl⟩
  generalize hu : (w3.setCell ⟨pb, 8, none⟩ (.string ⟨(st.left.drop n).toArray⟩)).alloc (.cells #[.string ⟨path.toArray⟩, .string ⟨(st.left.take n).toArray⟩] 102) = u at *
  rw [hfbe] at hfb hus hne hl3 ⊢
  clear hu k1 k2 k3 f3 HB3 HP3 HB2 HP2 HB1 HP1 e0 hfbe
  have k5 := (row_cell P4.blk 5).trans (show _ = some (sl 3) from rfl)
  have f5 := row_free P4.blk 5
  have l0 := (row_cell hfb 0).trans (show _ = some (.string ⟨path.toArray⟩) from rfl)
  have l1 := (row_cell hfb 1).trans (show _ = some (.string ⟨(st.left.take n).toArray⟩) from rfl)
  obtain ⟨m, xs, hmx⟩ : ∃ m xs, prow { st with left := st.left.drop n } 3 = (m, xs) := ⟨_, _, rfl⟩
  have hm0 : m = 0 := by have := congrArg Prod.fst hmx; simpa [prow, hf] using this.symm
  have own3 := P4.own 3
  rw [hmx] at own3
  have own3' : (u.drew).ownsRow (pb + 1) 102 2 (sl 3) m xs := own3
  have HP4 := hide P4; have HFB := hide hfb; have HB4 := hide B4; have HMX := hide hmx
  have hm1 : m ≤ 30 := by omega
  have hne2 : ¬ fb = pb := by omega
  have hne3 : ¬ pb = fb := by omega
  clear P4 hfb B4 hmx hm0 own3
  go_region_law (refine step_append_own rfl _ _ 63 rfl (pb + 1) 102 i0 _ 2 32 Tryz.underlying63 hi hz0 hz1 hz2 rfl (by decide) (sl 3) m xs rfl (own3'.alloc _) ⟨u.heap.size, 0, none⟩ 1 1 [_, _] (by simp [Act.eval]) rfl (cell_two_new _ _ _ _) (fun x hx => by simp at hx; rcases hx with rfl | rfl <;> rfl) (by unfold maxLen; omega) (by omega) (by simp; omega) ?_; intro v' w4 hown' hgrow4 hnil4 hblk4; obtain ⟨gv, cv, rfl⟩ := own_form hown' (by omega); have hk4 := PIn.kept (HP4.out.drew.alloc _) 3 hgrow4; have q5 := (row_cell hk4 5).trans (show _ = some (sl 3) from rfl); have g5 := row_free hk4 5; have hf4 := (hgrow4.block fb (by simp; omega) hne).trans ((Below.heap_alloc _ _ _ (by show fb < u.heap.size; omega)).trans HFB.out); have r1 := (row_cell hf4 1).trans (show _ = some (.string ⟨(st.left.take n).toArray⟩) from rfl))
  all_goals
    have hprow : prow { st with files := st.files ++ [(path, st.left.take n)], left := st.left.drop n } 3 = (m + 1, xs ++ [.string ⟨path.toArray⟩, .string ⟨(st.left.take n).toArray⟩]) := by
      have := HMX.out
      simp only [prow, Prod.mk.injEq] at this ⊢
      rw [← this.1, ← this.2]; simp [pairV, strV]
    have hown2 : w4.ownsRow (pb + 1) (pty 3) (psz 3) (.slice (some ⟨gv, 0, none⟩) (m + 1) cv) (prow { st with files := st.files ++ [(path, st.left.take n)], left := st.left.drop n } 3).1 (prow { st with files := st.files ++ [(path, st.left.take n)], left := st.left.drop n } 3).2 := by rw [hprow]; exact hown'
    have HP5 := hide (PIn.put (HP4.out.drew.alloc _) 3 hgrow4 hown2 hblk4 (fun j hj => by
      match j, hj with
      | 0, _ => rfl
      | 1, _ => rfl
      | 2, _ => rfl
      | 3, h => exact absurd rfl h
      | 4, _ => rfl
      | 5, _ => rfl) rfl)
    have HB5 : Hid (Below pb w (w4.setCell ⟨pb, 5, none⟩ (.slice (some ⟨gv, 0, none⟩) (m + 1) cv))) := hide (((show Below pb w w4 from ((HB4.out.drew.alloc (by show pb ≤ u.heap.size; omega) _).grown hgrow4 (by simp; omega) (fun k hk => by have := ((HP4.out.own 3).lt k hk).1; omega)))).setCell (p := ⟨pb, 5, none⟩) (Nat.le_refl pb) _)
    clear hown2 hprow hown' hgrow4 hnil4 hblk4 hk4 hf4
    go_wp2_with (first
      | (go_at_call 113; refine (short_any (st.left.take n) (by rw [List.length_take]; omega) K _ (by have := HB5.out.size; omega) (fun i hi => (HB5.out.cell (p := ⟨3, i, none⟩) (by show 3 < pb; omega)).trans (HK.out i hi))).mono ?_; rintro e w6 ⟨he6, hb6⟩; rw [HSUM.out] at he6; subst he6))
    go_ret
    exact ⟨rfl, _, HP5.out.below hb6, HB5.out.trans (hb6.mono (Nat.le_of_lt HP5.out.lt))⟩
end Go.Proofs.YtgdmgmklncmanaaGreatDoor
