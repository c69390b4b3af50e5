/- Of Ins: LineW1. -/
import Derived.Test.YtgdmgmklncmanaaGreatDoorIns33
import Derived.Test.YtgdmgmklncmanaaGreatDoorIns20
/- The walks over lines: needs, breaks, wakes, commands: every way. (Written by tools/gen_linew1.py.) -/
namespace Go.Proofs.YtgdmgmklncmanaaGreatDoor
open Go.RowKit
open Arc (St Cmd S)

theorem info_need : (Tryz.prog.info? 152).map (fun i => (i.zero, i.size, i.bytes)) = some (some (.agg #[.string ByteArray.empty, .string ByteArray.empty]), 2, 32) := by kernel_rfl
/-- The words of a line: where they lie, no row and no parser does. -/
structure Apart (pb q : Nat) (sl : Fin 6 → Value) (w : World) : Prop where
  lt : q < w.heap.size
  par : q ≠ pb
  row : ∀ i, (sl i).ownBlock ≠ some q
/-- What a line leaves. -/
def PlPost (pb : Nat) (nm ve : S) (o : Option St) (w : World) : Ending → World → Prop := fun e w' => match o with
  | none => e = .returned (.bool false) ∧ Below pb w w'
  | some st' => e = .returned (.bool true) ∧ ∃ sl', PIn pb nm ve st' sl' w' ∧ Below pb w w'
theorem pl_to {pb : Nat} {nm ve : S} {st' : St} {ok : Bool} {w : World} {f : FuncId} {args : Array Value} {o : Option St} (ho : o = if ok = true then some st' else none)
    (hc : Calls Tryz.prog f args w fun e w' => e = .returned (.bool ok) ∧ ∃ sl', PIn pb nm ve st' sl' w' ∧ Below pb w w') : Calls Tryz.prog f args w (PlPost pb nm ve o w) := by
  refine hc.mono fun e w' ⟨he, sl', h1, hb⟩ => ?_
  subst ho
  cases ok with
  | false => exact ⟨he, hb⟩
  | true => exact ⟨he, sl', h1, hb⟩
theorem pl_not {pb : Nat} {nm ve : S} {st : St} {sl : Fin 6 → Value} {w : World} {f : FuncId} {args : Array Value} (h : PIn pb nm ve st sl w)
    (hc : Calls Tryz.prog f args w fun e w' => e = .returned (.bool false) ∧ Below w.heap.size w w') : Calls Tryz.prog f args w (PlPost pb nm ve none w) :=
  hc.mono fun _ _ ⟨he, hb⟩ => ⟨he, hb.mono (Nat.le_of_lt h.lt)⟩
theorem grown_cell' {w w' : World} {row : Option Nat} {q j : Nat} {v : Value} (hg : w.grownBy w' row) (hc : w.cell? ⟨q, j, none⟩ = some v) (hn : some q ≠ row) : w'.cell? ⟨q, j, none⟩ = some v := hg.cell hc hn
set_option maxHeartbeats 400000 in
theorem needs_count (pb q o n c : Nat) (h1 : n ≠ 1) (h2 : n ≠ 2) (w : World) :
    Calls Tryz.prog 92 #[.pointer (some ⟨pb, 0, none⟩), .slice (some ⟨q, o, none⟩) n c] w fun e w' => e = .returned (.bool false) ∧ Below w.heap.size w w' := by
  have b1 : ((n : Int) != 1) = true := by simp; omega
  have b2 : ((n : Int) != 2) = true := by simp; omega
  go_enter Tryz.func92, Tryz.ntmps92
  go_wp2_with fail
  go_ret
  exact ⟨rfl, Below.refl _ _⟩
set_option maxHeartbeats 400000 in
theorem needs_old (pb q o c : Nat) (v : S) (hv : Ver.fine v = false) (y : S) (w : World) (hq : q < w.heap.size) (c0 : w.cell? ⟨q, o, none⟩ = some (.string ⟨y.toArray⟩)) (c1 : w.cell? ⟨q, o + 1, none⟩ = some (.string ⟨v.toArray⟩)) :
    Calls Tryz.prog 92 #[.pointer (some ⟨pb, 0, none⟩), .slice (some ⟨q, o, none⟩) 2 c] w fun e w' => e = .returned (.bool false) ∧ Below w.heap.size w w' := by
  have hqn : ¬ q = w.heap.size := by omega
  go_enter Tryz.func92, Tryz.ntmps92
  go_wp2_with (first
    | (go_at_call 69; refine (isVersion_any v _).mono ?_; rintro e w1 ⟨he, hb1⟩; rw [hv] at he; subst he))
  go_ret
  exact ⟨rfl, ((Below.refl _ w).alloc (Nat.le_refl _) _).trans (hb1.mono (by simp))⟩

set_option maxRecDepth 100000 in
set_option maxHeartbeats 1000000 in
theorem needs_one (pb q o c : Nat) (nm ve : S) (st : St) (sl : Fin 6 → Value) (y : S) (hy : y.length ≤ 2000) (hrl : st.needs.length ≤ 2000) (w : World) (h : PIn pb nm ve st sl w) (hq : q < w.heap.size)
    (c0 : w.cell? ⟨q, o, none⟩ = some (.string ⟨y.toArray⟩)) :
    Calls Tryz.prog 92 #[.pointer (some ⟨pb, 0, none⟩), .slice (some ⟨q, o, none⟩) 1 c] w fun e w' => e = .returned (.bool (Wd.isName y)) ∧ ∃ sl', PIn pb nm ve { st with needs := st.needs ++ [(y, [])] } sl' w' ∧ Below pb w w' := by
  obtain ⟨i0, hi, hz0, hz1, hz2⟩ := info_three info_need
  have hlt := h.lt
  have H := hide h
  clear h
  have hqn : ¬ q = w.heap.size := by omega
  go_enter Tryz.func92, Tryz.ntmps92
  go_wp2_with fail
  have hfb := heap_alloc_new w (.cells #[.string ⟨y.toArray⟩, .string ⟨#[]⟩] 152)
  have H3 := hide (H.out.alloc (.cells #[.string ⟨y.toArray⟩, .string ⟨#[]⟩] 152))
  have HB3 := hide ((Below.refl pb w).alloc (Nat.le_of_lt hlt) (.cells #[.string ⟨y.toArray⟩, .string ⟨#[]⟩] 152))
  have hus : w.heap.size < (w.alloc (.cells #[.string ⟨y.toArray⟩, .string ⟨#[]⟩] 152)).heap.size := by simp
  have hnf : some w.heap.size ≠ (sl 0).ownBlock := fun e => by have := ((H.out.own 0).lt _ e.symm).2; omega
  generalize hu : w.alloc (.cells #[.string ⟨y.toArray⟩, .string ⟨#[]⟩] 152) = u at *
  clear hu
  obtain ⟨fb, hfbe⟩ : ∃ fb, w.heap.size = fb := ⟨_, rfl⟩
  rw [hfbe] at hfb hus hlt hnf ⊢
  have HFB := hide hfb
  have l0 := (row_cell hfb 0).trans (show _ = some (.string ⟨y.toArray⟩) from rfl)
  have l1 := (row_cell hfb 1).trans (show _ = some (.string ⟨#[]⟩) from rfl)
  have hne2 : ¬ fb = pb := by omega
  have hne3 : ¬ pb = fb := by omega
  clear hfbe hfb H
  have k5 := (row_cell H3.out.blk 2).trans (show _ = some (sl 0) from rfl)
  have f5 := row_free H3.out.blk 2
  obtain ⟨m, xs, hmx⟩ : ∃ m xs, prow st 0 = (m, xs) := ⟨_, _, rfl⟩
  have hm1 : m ≤ 2000 := by have := congrArg Prod.fst hmx; simp only [prow] at this; omega
  have own3 := H3.out.own 0
  rw [hmx] at own3
  have own3' : (u.drew).ownsRow (pb + 1) 152 2 (sl 0) m xs := own3
  have HMX := hide hmx
  have hlu := H3.out.lt
  clear hmx own3
  go_region_law (refine step_append_own rfl _ _ 62 rfl (pb + 1) 152 i0 _ 2 32 Tryz.underlying62 hi hz0 hz1 hz2 rfl (by decide) (sl 0) m xs rfl (own3'.alloc _) ⟨u.heap.size, 0, none⟩ 1 1 [_, _] (by simp [Act.eval]) rfl (cell_two_new _ _ _ _) (fun x hx => by simp at hx; rcases hx with rfl | rfl <;> rfl) (by unfold maxLen; omega) (by omega) (by simp; omega) ?_; intro v' w4 hown' hgrow4 hnil4 hblk4; obtain ⟨gv, cv, rfl⟩ := own_form hown' (by omega); have hk4 := PIn.kept (H3.out.drew.alloc _) 0 hgrow4; have q5 := (row_cell hk4 2).trans (show _ = some (sl 0) from rfl); have g5 := row_free hk4 2; have hf4 := (hgrow4.block fb (by simp; omega) hnf).trans ((Below.heap_alloc _ _ _ (by show fb < u.heap.size; omega)).trans HFB.out); have r1 := (row_cell hf4 0).trans (show _ = some (.string ⟨y.toArray⟩) from rfl); clear hf4; have O4 := hide hown'; have G4 := hide hgrow4; have B4 := hide hblk4; clear hown' hgrow4 hnil4 hblk4 hk4)
  all_goals
    have hprow : prow { st with needs := st.needs ++ [(y, [])] } 0 = (m + 1, xs ++ [.string ⟨y.toArray⟩, .string ⟨#[]⟩]) := by
      have := HMX.out
      simp only [prow, Prod.mk.injEq] at this ⊢
      rw [← this.1, ← this.2]; simp [pairV, strV]
    have hown2 : w4.ownsRow (pb + 1) (pty 0) (psz 0) (.slice (some ⟨gv, 0, none⟩) (m + 1) cv) (prow { st with needs := st.needs ++ [(y, [])] } 0).1 (prow { st with needs := st.needs ++ [(y, [])] } 0).2 := by rw [hprow]; exact O4.out
    have HP5 := hide (PIn.put (H3.out.drew.alloc _) 0 G4.out hown2 B4.out (fun j hj => by
      match j, hj with
      | 0, h => exact absurd rfl h
      | 1, _ => rfl
      | 2, _ => rfl
      | 3, _ => rfl
      | 4, _ => rfl
      | 5, _ => rfl) rfl)
    have HB5 : Hid (Below pb w (w4.setCell ⟨pb, 2, none⟩ (.slice (some ⟨gv, 0, none⟩) (m + 1) cv))) := hide (((show Below pb w w4 from ((HB3.out.drew.alloc (by show pb ≤ u.heap.size; omega) _).grown G4.out (by simp; omega) (fun k hk => by have := ((H3.out.own 0).lt k hk).1; omega)))).setCell (p := ⟨pb, 2, none⟩) (Nat.le_refl pb) _)
    clear hown2 hprow O4 G4 B4
    go_wp2_with (first
      | (go_at_call 68; refine (isName_any y hy _).mono ?_; rintro e w6 ⟨rfl, hb6⟩))
    go_ret
    exact ⟨rfl, _, HP5.out.below hb6, HB5.out.trans (hb6.mono (Nat.le_of_lt HP5.out.lt))⟩

set_option maxRecDepth 100000 in
set_option maxHeartbeats 1000000 in
theorem needs_two (pb q o c : Nat) (nm ve : S) (st : St) (sl : Fin 6 → Value) (y v : S) (hy : y.length ≤ 2000) (hv : Ver.fine v = true) (hrl : st.needs.length ≤ 2000) (w : World) (h : PIn pb nm ve st sl w) (hq : q < w.heap.size)
    (c0 : w.cell? ⟨q, o, none⟩ = some (.string ⟨y.toArray⟩)) (c1 : w.cell? ⟨q, o + 1, none⟩ = some (.string ⟨v.toArray⟩)) :
    Calls Tryz.prog 92 #[.pointer (some ⟨pb, 0, none⟩), .slice (some ⟨q, o, none⟩) 2 c] w fun e w' => e = .returned (.bool (Wd.isName y)) ∧ ∃ sl', PIn pb nm ve { st with needs := st.needs ++ [(y, v)] } sl' w' ∧ Below pb w w' := by
  obtain ⟨i0, hi, hz0, hz1, hz2⟩ := info_three info_need
  have hlt := h.lt
  have H := hide h
  clear h
  have hqn : ¬ q = w.heap.size := by omega
  go_enter Tryz.func92, Tryz.ntmps92
  go_wp2_with (first
    | (go_at_call 69; refine (isVersion_any v _).mono ?_; rintro e u ⟨he, hb1⟩; rw [hv] at he; subst he))
  have hfb := (hb1.block w.heap.size (by simp)).trans (heap_alloc_new w (.cells #[.string ⟨y.toArray⟩, .string ⟨v.toArray⟩] 152))
  have H3 := hide ((H.out.alloc (.cells #[.string ⟨y.toArray⟩, .string ⟨v.toArray⟩] 152)).below hb1)
  have HB3 := hide (((Below.refl pb w).alloc (Nat.le_of_lt hlt) (.cells #[.string ⟨y.toArray⟩, .string ⟨v.toArray⟩] 152)).trans (hb1.mono (by simp; omega)))
  have hus : w.heap.size < u.heap.size := lt_of_block hfb
  have hnf : some w.heap.size ≠ (sl 0).ownBlock := fun e => by have := ((H.out.own 0).lt _ e.symm).2; omega
  clear hb1
  obtain ⟨fb, hfbe⟩ : ∃ fb, w.heap.size = fb := ⟨_, rfl⟩
  rw [hfbe] at hfb hus hlt hnf ⊢
  have HFB := hide hfb
  have l0 := (row_cell hfb 0).trans (show _ = some (.string ⟨y.toArray⟩) from rfl)
  have l1 := (row_cell hfb 1).trans (show _ = some (.string ⟨v.toArray⟩) from rfl)
  have hne2 : ¬ fb = pb := by omega
  have hne3 : ¬ pb = fb := by omega
  clear hfbe hfb H
  have k5 := (row_cell H3.out.blk 2).trans (show _ = some (sl 0) from rfl)
  have f5 := row_free H3.out.blk 2
  obtain ⟨m, xs, hmx⟩ : ∃ m xs, prow st 0 = (m, xs) := ⟨_, _, rfl⟩
  have hm1 : m ≤ 2000 := by have := congrArg Prod.fst hmx; simp only [prow] at this; omega
  have own3 := H3.out.own 0
  rw [hmx] at own3
  have own3' : (u.drew).ownsRow (pb + 1) 152 2 (sl 0) m xs := own3
  have HMX := hide hmx
  have hlu := H3.out.lt
  clear hmx own3
  go_region_law (refine step_append_own rfl _ _ 62 rfl (pb + 1) 152 i0 _ 2 32 Tryz.underlying62 hi hz0 hz1 hz2 rfl (by decide) (sl 0) m xs rfl (own3'.alloc _) ⟨u.heap.size, 0, none⟩ 1 1 [_, _] (by simp [Act.eval]) rfl (cell_two_new _ _ _ _) (fun x hx => by simp at hx; rcases hx with rfl | rfl <;> rfl) (by unfold maxLen; omega) (by omega) (by simp; omega) ?_; intro v' w4 hown' hgrow4 hnil4 hblk4; obtain ⟨gv, cv, rfl⟩ := own_form hown' (by omega); have hk4 := PIn.kept (H3.out.drew.alloc _) 0 hgrow4; have q5 := (row_cell hk4 2).trans (show _ = some (sl 0) from rfl); have g5 := row_free hk4 2; have hf4 := (hgrow4.block fb (by simp; omega) hnf).trans ((Below.heap_alloc _ _ _ (by show fb < u.heap.size; omega)).trans HFB.out); have r1 := (row_cell hf4 0).trans (show _ = some (.string ⟨y.toArray⟩) from rfl); clear hf4; have O4 := hide hown'; have G4 := hide hgrow4; have B4 := hide hblk4; clear hown' hgrow4 hnil4 hblk4 hk4)
  all_goals
    have hprow : prow { st with needs := st.needs ++ [(y, v)] } 0 = (m + 1, xs ++ [.string ⟨y.toArray⟩, .string ⟨v.toArray⟩]) := by
      have := HMX.out
      simp only [prow, Prod.mk.injEq] at this ⊢
      rw [← this.1, ← this.2]; simp [pairV, strV]
    have hown2 : w4.ownsRow (pb + 1) (pty 0) (psz 0) (.slice (some ⟨gv, 0, none⟩) (m + 1) cv) (prow { st with needs := st.needs ++ [(y, v)] } 0).1 (prow { st with needs := st.needs ++ [(y, v)] } 0).2 := by rw [hprow]; exact O4.out
    have HP5 := hide (PIn.put (H3.out.drew.alloc _) 0 G4.out hown2 B4.out (fun j hj => by
      match j, hj with
      | 0, h => exact absurd rfl h
      | 1, _ => rfl
      | 2, _ => rfl
      | 3, _ => rfl
      | 4, _ => rfl
      | 5, _ => rfl) rfl)
    have HB5 : Hid (Below pb w (w4.setCell ⟨pb, 2, none⟩ (.slice (some ⟨gv, 0, none⟩) (m + 1) cv))) := hide (((show Below pb w w4 from ((HB3.out.drew.alloc (by show pb ≤ u.heap.size; omega) _).grown G4.out (by simp; omega) (fun k hk => by have := ((H3.out.own 0).lt k hk).1; omega)))).setCell (p := ⟨pb, 2, none⟩) (Nat.le_refl pb) _)
    clear hown2 hprow O4 G4 B4
    go_wp2_with (first
      | (go_at_call 68; refine (isName_any y hy _).mono ?_; rintro e w6 ⟨rfl, hb6⟩))
    go_ret
    exact ⟨rfl, _, HP5.out.below hb6, HB5.out.trans (hb6.mono (Nat.le_of_lt HP5.out.lt))⟩

set_option maxHeartbeats 1000000 in
theorem line_zero (pb q o n c : Nat) (k : Int) (hk : k ≠ 1 ∧ k ≠ 2 ∧ k ≠ 3 ∧ k ≠ 4 ∧ k ≠ 5 ∧ k ≠ 6) (w : World) :
    Calls Tryz.prog 71 #[.pointer (some ⟨pb, 0, none⟩), .int .i64 k, .slice (some ⟨q, o, none⟩) n c] w fun e w' => e = .returned (.bool false) ∧ Below w.heap.size w w' := by
  obtain ⟨h1, h2, h3, h4, h5, h6⟩ := hk
  have b1 : (k == 1) = false := by simp [h1]
  have b2 : (k == 2) = false := by simp [h2]
  have b3 : (k == 3) = false := by simp [h3]
  have b4 : (k == 4) = false := by simp [h4]
  have b5 : (k == 5) = false := by simp [h5]
  have b6 : (k == 6) = false := by simp [h6]
  go_enter Tryz.func71, Tryz.ntmps71
  go_wp2_with fail
  go_ret
  exact ⟨rfl, Below.refl _ _⟩
theorem line_by (pb q o n c : Nat) (w : World) (b : Bool) (Post : World → Prop) (k : Int) (f : Nat) (hf : (k = 1 ∧ f = 92) ∨ (k = 4 ∧ f = 94))
    (h : Calls Tryz.prog f #[.pointer (some ⟨pb, 0, none⟩), .slice (some ⟨q, o, none⟩) n c] w fun e w' => e = .returned (.bool b) ∧ Post w') :
    Calls Tryz.prog 71 #[.pointer (some ⟨pb, 0, none⟩), .int .i64 k, .slice (some ⟨q, o, none⟩) n c] w fun e w' => e = .returned (.bool b) ∧ Post w' := by
  have H := hide h
  clear h
  rcases hf with ⟨rfl, rfl⟩ | ⟨rfl, rfl⟩
  · go_enter Tryz.func71, Tryz.ntmps71
    go_wp2_with (go_at_call 92; refine H.out.mono ?_; rintro e w1 ⟨rfl, hp⟩)
    go_ret
    exact ⟨rfl, hp⟩
  · go_enter Tryz.func71, Tryz.ntmps71
    go_wp2_with (go_at_call 94; refine H.out.mono ?_; rintro e w1 ⟨rfl, hp⟩)
    go_ret
    exact ⟨rfl, hp⟩

set_option maxRecDepth 100000 in
set_option maxHeartbeats 1000000 in
theorem line_breaks (pb q o c : Nat) (nm ve : S) (st : St) (sl : Fin 6 → Value) (y : S) (hy : y.length ≤ 2000) (hrl : st.breaks.length ≤ 2000) (w : World) (h : PIn pb nm ve st sl w) (ha : Apart pb q sl w)
    (c0 : w.cell? ⟨q, o, none⟩ = some (.string ⟨y.toArray⟩)) :
    Calls Tryz.prog 71 #[.pointer (some ⟨pb, 0, none⟩), .int .i64 2, .slice (some ⟨q, o, none⟩) 1 c] w fun e w' => e = .returned (.bool (Wd.isName y)) ∧ ∃ sl', PIn pb nm ve { st with breaks := st.breaks ++ [y] } sl' w' ∧ Below pb w w' := by
  obtain ⟨i0, hi, hz0, hz1, hz2⟩ := info_three info_str
  have hlt := h.lt
  have H := hide h
  clear h
  obtain ⟨hq, hqp, hqr⟩ := ha
  have hqp' : ¬ pb = q := fun e => hqp e.symm
  have hqi : some q ≠ (sl 1).ownBlock := fun e => hqr 1 e.symm
  clear hqr
  have k5 := (row_cell H.out.blk 3).trans (show _ = some (sl 1) from rfl)
  have f5 := row_free H.out.blk 3
  obtain ⟨m, xs, hmx⟩ : ∃ m xs, prow st 1 = (m, xs) := ⟨_, _, rfl⟩
  have hm1 : m ≤ 2000 := by have := congrArg Prod.fst hmx; simp only [prow] at this; omega
  have own3 : w.ownsRow (pb + 1) 9 1 (sl 1) m xs := by have := H.out.own 1; rwa [hmx] at this
  have HMX := hide hmx
  clear hmx
  have hnews : ∀ j u, [Value.string ⟨y.toArray⟩][j]? = some u → w.cell? ((⟨q, o, none⟩ : Addr).add j) = some u := by
    intro j u hu
    have hj : j = 0 := by
      have := (List.getElem?_eq_some_iff.1 hu).1
      simpa using this
    subst hj
    have hadd : (⟨q, o, none⟩ : Addr).add 0 = ⟨q, o, none⟩ := by unfold Addr.add; split <;> simp_all
    rw [hadd, c0]; simpa using hu
  have HNE := hide hnews
  clear hnews
  go_enter Tryz.func71, Tryz.ntmps71
  go_wp2_with (first
    | (at_builtin; refine wpList_append_own_at _ rfl _ _ 30 rfl (pb + 1) 9 i0 (.string ByteArray.empty) 1 16 Tryz.underlying30 hi hz0 hz1 hz2 rfl (by decide) _ _ _ rfl own3 ⟨q, o, none⟩ 1 c [Value.string ⟨y.toArray⟩] rfl rfl HNE.out (fun x hx => by simp at hx; subst hx; rfl) (by unfold maxLen; omega) (by omega) (by omega) ?_; intro v' w4 hown' hgrow4 hnil4 hblk4; obtain ⟨gv, cv, rfl⟩ := own_form hown' (by omega); have hk4 := PIn.kept H.out 1 hgrow4; have q5 := (row_cell hk4 3).trans (show _ = some (sl 1) from rfl); have g5 := row_free hk4 3; have e4 := grown_cell' hgrow4 c0 hqi;
        have hprow : prow { st with breaks := st.breaks ++ [y] } 1 = (m + 1, xs ++ [.string ⟨y.toArray⟩]) := (by
          have := HMX.out
          simp only [prow, Prod.mk.injEq] at this ⊢
          rw [← this.1, ← this.2]; simp [strV]);
        have HP5 := hide (PIn.put (st' := { st with breaks := st.breaks ++ [y] }) H.out 1 hgrow4 (by rw [hprow]; exact hown') hblk4 (fun j hj => by
          match j, hj with
          | 0, _ => rfl
          | 1, h => exact absurd rfl h
          | 2, _ => rfl
          | 3, _ => rfl
          | 4, _ => rfl
          | 5, _ => rfl) rfl);
        have HB5 : Hid (Below pb w (w4.setCell ⟨pb, 3, none⟩ (.slice (some ⟨gv, 0, none⟩) (m + 1) cv))) := hide (((show Below pb w w4 from ((Below.refl pb w).grown hgrow4 (by omega) (fun k hk => by have := (own3.lt k hk).1; omega)))).setCell (p := ⟨pb, 3, none⟩) (Nat.le_refl pb) _);
        clear hprow hown' hgrow4 hnil4 hblk4 hk4)
    | (go_at_call 68; refine (isName_any y hy _).mono ?_; rintro e w6 ⟨rfl, hb6⟩))
  go_ret
  exact ⟨rfl, _, HP5.out.below hb6, HB5.out.trans (hb6.mono (Nat.le_of_lt HP5.out.lt))⟩

set_option maxRecDepth 100000 in
set_option maxHeartbeats 1000000 in
theorem line_breaks_count (pb q o n c : Nat) (nm ve : S) (st : St) (sl : Fin 6 → Value) (ys : List S) (hys : ys.length = n) (hn : n ≠ 1) (hn2 : n ≤ 2001) (hrl : st.breaks.length ≤ 2000) (w : World) (h : PIn pb nm ve st sl w)
    (hc : ∀ j y, ys[j]? = some y → w.cell? ⟨q, o + j, none⟩ = some (.string ⟨y.toArray⟩)) :
    Calls Tryz.prog 71 #[.pointer (some ⟨pb, 0, none⟩), .int .i64 2, .slice (some ⟨q, o, none⟩) n c] w fun e w' => e = .returned (.bool false) ∧ Below pb w w' := by
  obtain ⟨i0, hi, hz0, hz1, hz2⟩ := info_three info_str
  have b1 : ((n : Int) == 1) = false := by simp; omega
  have hlt := h.lt
  have H := hide h
  clear h
  have k5 := (row_cell H.out.blk 3).trans (show _ = some (sl 1) from rfl)
  have f5 := row_free H.out.blk 3
  obtain ⟨m, xs, hmx⟩ : ∃ m xs, prow st 1 = (m, xs) := ⟨_, _, rfl⟩
  have hm1 : m ≤ 2000 := by have := congrArg Prod.fst hmx; simp only [prow] at this; omega
  have own3 : w.ownsRow (pb + 1) 9 1 (sl 1) m xs := by have := H.out.own 1; rwa [hmx] at this
  clear hmx
  have hnews : ∀ j u, (ys.map strV)[j]? = some u → w.cell? ((⟨q, o, none⟩ : Addr).add j) = some u := by
    intro j u hu
    rw [List.getElem?_map] at hu
    cases hy : ys[j]? with
    | none => rw [hy] at hu; cases hu
    | some y =>
      rw [hy] at hu
      have hadd : (⟨q, o, none⟩ : Addr).add j = ⟨q, o + j, none⟩ := by unfold Addr.add; split <;> simp_all
      rw [hadd, hc j y hy]; exact hu
  have HNE := hide hnews
  have HYS := hide (show (ys.map strV).length = n * 1 by simp [hys])
  clear hnews hys hc
  go_enter Tryz.func71, Tryz.ntmps71
  go_wp2_with (first
    | (at_builtin; refine wpList_append_own_at _ rfl _ _ 30 rfl (pb + 1) 9 i0 (.string ByteArray.empty) 1 16 Tryz.underlying30 hi hz0 hz1 hz2 rfl (by decide) _ _ _ rfl own3 ⟨q, o, none⟩ n c (ys.map strV) rfl HYS.out HNE.out (fun x hx => by obtain ⟨y, -, rfl⟩ := List.mem_map.1 hx; rfl) (by unfold maxLen; omega) (by omega) (by omega) ?_; intro v' w4 hown' hgrow4 hnil4 hblk4; obtain ⟨ao4, ac4, rfl⟩ := slice_form hown'; have hk4 := PIn.kept H.out 1 hgrow4; have q5 := (row_cell hk4 3).trans (show _ = some (sl 1) from rfl); have g5 := row_free hk4 3;
        have HB5 : Hid (Below pb w (w4.setCell ⟨pb, 3, none⟩ (.slice ao4 (m + n) ac4))) := hide (((show Below pb w w4 from ((Below.refl pb w).grown hgrow4 (by omega) (fun k hk => by have := (own3.lt k hk).1; omega)))).setCell (p := ⟨pb, 3, none⟩) (Nat.le_refl pb) _);
        clear hown' hgrow4 hnil4 hblk4 hk4))
  go_ret
  exact ⟨rfl, HB5.out⟩

set_option maxRecDepth 100000 in
set_option maxHeartbeats 1000000 in
theorem line_wakes (pb q o c : Nat) (nm ve : S) (st : St) (sl : Fin 6 → Value) (y : S) (hy : y.length ≤ 2000) (hrl : st.wakes.length ≤ 2000) (mx : Int) (w : World) (h : PIn pb nm ve st sl w) (ha : Apart pb q sl w) (hp0 : 9 ≤ pb) (hm : w.cell? ⟨0, 0, none⟩ = some (.int .i64 mx))
    (c0 : w.cell? ⟨q, o, none⟩ = some (.string ⟨y.toArray⟩)) :
    Calls Tryz.prog 71 #[.pointer (some ⟨pb, 0, none⟩), .int .i64 3, .slice (some ⟨q, o, none⟩) 1 c] w fun e w' => e = .returned (.bool (Wd.isPath y)) ∧ ∃ sl', PIn pb nm ve { st with wakes := st.wakes ++ [y] } sl' w' ∧ Below pb w w' := by
  obtain ⟨i0, hi, hz0, hz1, hz2⟩ := info_three info_str
  have HM := hide hm; clear hm
  have hlt := h.lt
  have H := hide h
  clear h
  obtain ⟨hq, hqp, hqr⟩ := ha
  have hqp' : ¬ pb = q := fun e => hqp e.symm
  have hqi : some q ≠ (sl 2).ownBlock := fun e => hqr 2 e.symm
  clear hqr
  have k5 := (row_cell H.out.blk 4).trans (show _ = some (sl 2) from rfl)
  have f5 := row_free H.out.blk 4
  obtain ⟨m, xs, hmx⟩ : ∃ m xs, prow st 2 = (m, xs) := ⟨_, _, rfl⟩
  have hm1 : m ≤ 2000 := by have := congrArg Prod.fst hmx; simp only [prow] at this; omega
  have own3 : w.ownsRow (pb + 1) 9 1 (sl 2) m xs := by have := H.out.own 2; rwa [hmx] at this
  have HMX := hide hmx
  clear hmx
  have hnews : ∀ j u, [Value.string ⟨y.toArray⟩][j]? = some u → w.cell? ((⟨q, o, none⟩ : Addr).add j) = some u := by
    intro j u hu
    have hj : j = 0 := by
      have := (List.getElem?_eq_some_iff.1 hu).1
      simpa using this
    subst hj
    have hadd : (⟨q, o, none⟩ : Addr).add 0 = ⟨q, o, none⟩ := by unfold Addr.add; split <;> simp_all
    rw [hadd, c0]; simpa using hu
  have HNE := hide hnews
  clear hnews
  go_enter Tryz.func71, Tryz.ntmps71
  go_wp2_with (first
    | (at_builtin; refine wpList_append_own_at _ rfl _ _ 30 rfl (pb + 1) 9 i0 (.string ByteArray.empty) 1 16 Tryz.underlying30 hi hz0 hz1 hz2 rfl (by decide) _ _ _ rfl own3 ⟨q, o, none⟩ 1 c [Value.string ⟨y.toArray⟩] rfl rfl HNE.out (fun x hx => by simp at hx; subst hx; rfl) (by unfold maxLen; omega) (by omega) (by omega) ?_; intro v' w4 hown' hgrow4 hnil4 hblk4; obtain ⟨gv, cv, rfl⟩ := own_form hown' (by omega); have hk4 := PIn.kept H.out 2 hgrow4; have q5 := (row_cell hk4 4).trans (show _ = some (sl 2) from rfl); have g5 := row_free hk4 4; have e4 := grown_cell' hgrow4 c0 hqi;
        have hprow : prow { st with wakes := st.wakes ++ [y] } 2 = (m + 1, xs ++ [.string ⟨y.toArray⟩]) := (by
          have := HMX.out
          simp only [prow, Prod.mk.injEq] at this ⊢
          rw [← this.1, ← this.2]; simp [strV]);
        have HP5 := hide (PIn.put (st' := { st with wakes := st.wakes ++ [y] }) H.out 2 hgrow4 (by rw [hprow]; exact hown') hblk4 (fun j hj => by
          match j, hj with
          | 0, _ => rfl
          | 1, _ => rfl
          | 2, h => exact absurd rfl h
          | 3, _ => rfl
          | 4, _ => rfl
          | 5, _ => rfl) rfl);
        have HB5 : Hid (Below pb w (w4.setCell ⟨pb, 4, none⟩ (.slice (some ⟨gv, 0, none⟩) (m + 1) cv))) := hide (((show Below pb w w4 from ((Below.refl pb w).grown hgrow4 (by omega) (fun k hk => by have := (own3.lt k hk).1; omega)))).setCell (p := ⟨pb, 4, none⟩) (Nat.le_refl pb) _);
        clear hprow hown' hgrow4 hnil4 hblk4 hk4)
    | (go_at_call 93; refine (isPath_any y hy mx _ ((HB5.out.cell (p := ⟨0, 0, none⟩) (by show 0 < pb; omega)).trans HM.out)).mono ?_; rintro e w6 ⟨rfl, hb6⟩))
  go_ret
  exact ⟨rfl, _, HP5.out.below hb6, HB5.out.trans (hb6.mono (Nat.le_of_lt HP5.out.lt))⟩

set_option maxRecDepth 100000 in
set_option maxHeartbeats 1000000 in
theorem line_wakes_count (pb q o n c : Nat) (nm ve : S) (st : St) (sl : Fin 6 → Value) (ys : List S) (hys : ys.length = n) (hn : n ≠ 1) (hn2 : n ≤ 2001) (hrl : st.wakes.length ≤ 2000) (w : World) (h : PIn pb nm ve st sl w)
    (hc : ∀ j y, ys[j]? = some y → w.cell? ⟨q, o + j, none⟩ = some (.string ⟨y.toArray⟩)) :
    Calls Tryz.prog 71 #[.pointer (some ⟨pb, 0, none⟩), .int .i64 3, .slice (some ⟨q, o, none⟩) n c] w fun e w' => e = .returned (.bool false) ∧ Below pb w w' := by
  obtain ⟨i0, hi, hz0, hz1, hz2⟩ := info_three info_str
  have b1 : ((n : Int) == 1) = false := by simp; omega
  have hlt := h.lt
  have H := hide h
  clear h
  have k5 := (row_cell H.out.blk 4).trans (show _ = some (sl 2) from rfl)
  have f5 := row_free H.out.blk 4
  obtain ⟨m, xs, hmx⟩ : ∃ m xs, prow st 2 = (m, xs) := ⟨_, _, rfl⟩
  have hm1 : m ≤ 2000 := by have := congrArg Prod.fst hmx; simp only [prow] at this; omega
  have own3 : w.ownsRow (pb + 1) 9 1 (sl 2) m xs := by have := H.out.own 2; rwa [hmx] at this
  clear hmx
  have hnews : ∀ j u, (ys.map strV)[j]? = some u → w.cell? ((⟨q, o, none⟩ : Addr).add j) = some u := by
    intro j u hu
    rw [List.getElem?_map] at hu
    cases hy : ys[j]? with
    | none => rw [hy] at hu; cases hu
    | some y =>
      rw [hy] at hu
      have hadd : (⟨q, o, none⟩ : Addr).add j = ⟨q, o + j, none⟩ := by unfold Addr.add; split <;> simp_all
      rw [hadd, hc j y hy]; exact hu
  have HNE := hide hnews
  have HYS := hide (show (ys.map strV).length = n * 1 by simp [hys])
  clear hnews hys hc
  go_enter Tryz.func71, Tryz.ntmps71
  go_wp2_with (first
    | (at_builtin; refine wpList_append_own_at _ rfl _ _ 30 rfl (pb + 1) 9 i0 (.string ByteArray.empty) 1 16 Tryz.underlying30 hi hz0 hz1 hz2 rfl (by decide) _ _ _ rfl own3 ⟨q, o, none⟩ n c (ys.map strV) rfl HYS.out HNE.out (fun x hx => by obtain ⟨y, -, rfl⟩ := List.mem_map.1 hx; rfl) (by unfold maxLen; omega) (by omega) (by omega) ?_; intro v' w4 hown' hgrow4 hnil4 hblk4; obtain ⟨ao4, ac4, rfl⟩ := slice_form hown'; have hk4 := PIn.kept H.out 2 hgrow4; have q5 := (row_cell hk4 4).trans (show _ = some (sl 2) from rfl); have g5 := row_free hk4 4;
        have HB5 : Hid (Below pb w (w4.setCell ⟨pb, 4, none⟩ (.slice ao4 (m + n) ac4))) := hide (((show Below pb w w4 from ((Below.refl pb w).grown hgrow4 (by omega) (fun k hk => by have := (own3.lt k hk).1; omega)))).setCell (p := ⟨pb, 4, none⟩) (Nat.le_refl pb) _);
        clear hown' hgrow4 hnil4 hblk4 hk4))
  go_ret
  exact ⟨rfl, HB5.out⟩

set_option maxRecDepth 100000 in
set_option maxHeartbeats 1000000 in
theorem line_runs_no (pb q o n c : Nat) (nm ve : S) (st : St) (sl : Fin 6 → Value) (rest : List S) (hw : ∀ x ∈ rest, x.length ≤ 2000) (hn : rest.length = n) (vv : Int) (v1 v2 v3 : S) (hrc : Arc.pcmd rest = (⟨vv, v1, v2, v3⟩, false)) (hrl : st.runs.length ≤ 2000) (mx : Int) (w : World) (h : PIn pb nm ve st sl w) (hq : q < w.heap.size)
    (hm : w.cell? ⟨0, 0, none⟩ = some (.int .i64 mx)) (hc : ∀ j y, rest[j]? = some y → w.cell? ⟨q, o + j, none⟩ = some (.string ⟨y.toArray⟩)) :
    Calls Tryz.prog 71 #[.pointer (some ⟨pb, 0, none⟩), .int .i64 5, .slice (some ⟨q, o, none⟩) n c] w fun e w' => e = .returned (.bool (false)) ∧ ∃ sl', PIn pb nm ve { st with runs := st.runs ++ [⟨vv, v1, v2, v3⟩] } sl' w' ∧ Below pb w w' := by
  obtain ⟨i0, hi, hz0, hz1, hz2⟩ := info_three info_cmd
  have hlt := h.lt
  have H := hide h
  have HC : Hid (Calls Tryz.prog 95 #[.slice (some ⟨q, o, none⟩) n c] w fun e w' => e = .returned (.tuple #[.agg #[.int .i64 vv, .string ⟨v1.toArray⟩, .string ⟨v2.toArray⟩, .string ⟨v3.toArray⟩], .bool false]) ∧ Below w.heap.size w w') := hide (by
    have := command_any (some ⟨q, o, none⟩) q o c rest hw mx w (World.block_lt_of_cell? w _ hm) hm (fun _ => ⟨rfl, hq⟩) hc
    rw [hrc, hn] at this
    exact this)
  clear h hm hc hrc hn hw
  go_enter Tryz.func71, Tryz.ntmps71
  go_wp2_with (go_at_call 95; refine HC.out.mono ?_; rintro e w1 ⟨rfl, hb1⟩)
  have H1 := hide (H.out.below hb1)
  have HB1 := hide (hb1.mono (Nat.le_of_lt hlt))
  have H3 := hide (H1.out.alloc (.cells #[.int .i64 vv, .string ⟨v1.toArray⟩, .string ⟨v2.toArray⟩, .string ⟨v3.toArray⟩] 143))
  have HB3 := hide (HB1.out.alloc (Nat.le_of_lt H1.out.lt) (.cells #[.int .i64 vv, .string ⟨v1.toArray⟩, .string ⟨v2.toArray⟩, .string ⟨v3.toArray⟩] 143))
  have hfb := heap_alloc_new w1 (.cells #[.int .i64 vv, .string ⟨v1.toArray⟩, .string ⟨v2.toArray⟩, .string ⟨v3.toArray⟩] 143)
  have hus : (w1.alloc (.cells #[.int .i64 vv, .string ⟨v1.toArray⟩, .string ⟨v2.toArray⟩, .string ⟨v3.toArray⟩] 143)).heap.size = w1.heap.size + 1 := by simp
  have hnf : some w1.heap.size ≠ (sl 4).ownBlock := fun e => by have := ((H1.out.own 4).lt _ e.symm).2; omega
  have hl2 := H1.out.lt
  obtain ⟨fb, hfbe⟩ : ∃ fb, w1.heap.size = fb := ⟨_, rfl⟩
  generalize hu : w1.alloc (.cells #[.int .i64 vv, .string ⟨v1.toArray⟩, .string ⟨v2.toArray⟩, .string ⟨v3.toArray⟩] 143) = u at *
  rw [hfbe] at hfb hus hl2 hnf ⊢
  clear hu hfbe H1 HB1 hb1
  obtain ⟨l0, l1, l2, l3, -⟩ := four_free hfb
  have HFB := hide hfb
  have hne2 : ¬ fb = pb := by omega
  have hne3 : ¬ pb = fb := by omega
  clear hfb
  have k5 := (row_cell H3.out.blk 6).trans (show _ = some (sl 4) from rfl)
  have f5 := row_free H3.out.blk 6
  obtain ⟨m, xs, hmx⟩ : ∃ m xs, prow st 4 = (m, xs) := ⟨_, _, rfl⟩
  have hm1 : m ≤ 2000 := by have := congrArg Prod.fst hmx; simp only [prow] at this; omega
  have own3 := H3.out.own 4
  rw [hmx] at own3
  have own3' : (u.drew).ownsRow (pb + 1) 143 4 (sl 4) m xs := own3
  have HMX := hide hmx
  have hlu := H3.out.lt
  clear hmx own3
  go_region_law (refine step_append_own rfl _ _ 64 rfl (pb + 1) 143 i0 _ 4 56 Tryz.underlying64 hi hz0 hz1 hz2 rfl (by decide) (sl 4) m xs rfl (own3'.alloc _) ⟨u.heap.size, 0, none⟩ 1 1 [_, _, _, _] (by simp [Act.eval]) rfl (cell_four_new _ _ _ _ _ _) (fun x hx => by simp at hx; rcases hx with rfl | rfl | rfl | rfl <;> rfl) (by unfold maxLen; omega) (by omega) (by simp; omega) ?_; intro v' w4 hown' hgrow4 hnil4 hblk4; obtain ⟨gv, cv, rfl⟩ := own_form hown' (by omega); have hk4 := PIn.kept (H3.out.drew.alloc _) 4 hgrow4; have q5 := (row_cell hk4 6).trans (show _ = some (sl 4) from rfl); have g5 := row_free hk4 6; have O4 := hide hown'; have G4 := hide hgrow4; have B4 := hide hblk4; clear hown' hgrow4 hnil4 hblk4 hk4)
  all_goals
    have hprow : prow { st with runs := st.runs ++ [⟨vv, v1, v2, v3⟩] } 4 = (m + 1, xs ++ [.int .i64 vv, .string ⟨v1.toArray⟩, .string ⟨v2.toArray⟩, .string ⟨v3.toArray⟩]) := by
      have := HMX.out
      simp only [prow, Prod.mk.injEq] at this ⊢
      rw [← this.1, ← this.2]; simp [cmdV, strV]
    have hown2 : w4.ownsRow (pb + 1) (pty 4) (psz 4) (.slice (some ⟨gv, 0, none⟩) (m + 1) cv) (prow { st with runs := st.runs ++ [⟨vv, v1, v2, v3⟩] } 4).1 (prow { st with runs := st.runs ++ [⟨vv, v1, v2, v3⟩] } 4).2 := by rw [hprow]; exact O4.out
    have HP5 := hide (PIn.put (H3.out.drew.alloc _) 4 G4.out hown2 B4.out (fun j hj => by
      match j, hj with
      | 0, _ => rfl
      | 1, _ => rfl
      | 2, _ => rfl
      | 3, _ => rfl
      | 4, h => exact absurd rfl h
      | 5, _ => rfl) rfl)
    have HB5 : Hid (Below pb w (w4.setCell ⟨pb, 6, none⟩ (.slice (some ⟨gv, 0, none⟩) (m + 1) cv))) := hide (((show Below pb w w4 from ((HB3.out.drew.alloc (by show pb ≤ u.heap.size; omega) _).grown G4.out (by simp; omega) (fun k hk => by have := ((H3.out.own 4).lt k hk).1; omega)))).setCell (p := ⟨pb, 6, none⟩) (Nat.le_refl pb) _)
    clear hown2 hprow O4 G4 B4
    go_wp2_with fail
    go_ret
    exact ⟨rfl, _, HP5.out, HB5.out⟩

set_option maxRecDepth 100000 in
set_option maxHeartbeats 1000000 in
theorem line_runs_yes (pb q o n c : Nat) (nm ve : S) (st : St) (sl : Fin 6 → Value) (rest : List S) (hw : ∀ x ∈ rest, x.length ≤ 2000) (hn : rest.length = n) (vv : Int) (v1 v2 v3 : S) (hrc : Arc.pcmd rest = (⟨vv, v1, v2, v3⟩, true)) (hrl : st.runs.length ≤ 2000) (mx : Int) (w : World) (h : PIn pb nm ve st sl w) (hq : q < w.heap.size)
    (hm : w.cell? ⟨0, 0, none⟩ = some (.int .i64 mx)) (hc : ∀ j y, rest[j]? = some y → w.cell? ⟨q, o + j, none⟩ = some (.string ⟨y.toArray⟩)) :
    Calls Tryz.prog 71 #[.pointer (some ⟨pb, 0, none⟩), .int .i64 5, .slice (some ⟨q, o, none⟩) n c] w fun e w' => e = .returned (.bool (vv != 5)) ∧ ∃ sl', PIn pb nm ve { st with runs := st.runs ++ [⟨vv, v1, v2, v3⟩] } sl' w' ∧ Below pb w w' := by
  obtain ⟨i0, hi, hz0, hz1, hz2⟩ := info_three info_cmd
  have hlt := h.lt
  have H := hide h
  have HC : Hid (Calls Tryz.prog 95 #[.slice (some ⟨q, o, none⟩) n c] w fun e w' => e = .returned (.tuple #[.agg #[.int .i64 vv, .string ⟨v1.toArray⟩, .string ⟨v2.toArray⟩, .string ⟨v3.toArray⟩], .bool true]) ∧ Below w.heap.size w w') := hide (by
    have := command_any (some ⟨q, o, none⟩) q o c rest hw mx w (World.block_lt_of_cell? w _ hm) hm (fun _ => ⟨rfl, hq⟩) hc
    rw [hrc, hn] at this
    exact this)
  clear h hm hc hrc hn hw
  go_enter Tryz.func71, Tryz.ntmps71
  go_wp2_with (go_at_call 95; refine HC.out.mono ?_; rintro e w1 ⟨rfl, hb1⟩)
  have H1 := hide (H.out.below hb1)
  have HB1 := hide (hb1.mono (Nat.le_of_lt hlt))
  have H3 := hide (H1.out.alloc (.cells #[.int .i64 vv, .string ⟨v1.toArray⟩, .string ⟨v2.toArray⟩, .string ⟨v3.toArray⟩] 143))
  have HB3 := hide (HB1.out.alloc (Nat.le_of_lt H1.out.lt) (.cells #[.int .i64 vv, .string ⟨v1.toArray⟩, .string ⟨v2.toArray⟩, .string ⟨v3.toArray⟩] 143))
  have hfb := heap_alloc_new w1 (.cells #[.int .i64 vv, .string ⟨v1.toArray⟩, .string ⟨v2.toArray⟩, .string ⟨v3.toArray⟩] 143)
  have hus : (w1.alloc (.cells #[.int .i64 vv, .string ⟨v1.toArray⟩, .string ⟨v2.toArray⟩, .string ⟨v3.toArray⟩] 143)).heap.size = w1.heap.size + 1 := by simp
  have hnf : some w1.heap.size ≠ (sl 4).ownBlock := fun e => by have := ((H1.out.own 4).lt _ e.symm).2; omega
  have hl2 := H1.out.lt
  obtain ⟨fb, hfbe⟩ : ∃ fb, w1.heap.size = fb := ⟨_, rfl⟩
  generalize hu : w1.alloc (.cells #[.int .i64 vv, .string ⟨v1.toArray⟩, .string ⟨v2.toArray⟩, .string ⟨v3.toArray⟩] 143) = u at *
  rw [hfbe] at hfb hus hl2 hnf ⊢
  clear hu hfbe H1 HB1 hb1
  obtain ⟨l0, l1, l2, l3, -⟩ := four_free hfb
  have HFB := hide hfb
  have hne2 : ¬ fb = pb := by omega
  have hne3 : ¬ pb = fb := by omega
  clear hfb
  have k5 := (row_cell H3.out.blk 6).trans (show _ = some (sl 4) from rfl)
  have f5 := row_free H3.out.blk 6
  obtain ⟨m, xs, hmx⟩ : ∃ m xs, prow st 4 = (m, xs) := ⟨_, _, rfl⟩
  have hm1 : m ≤ 2000 := by have := congrArg Prod.fst hmx; simp only [prow] at this; omega
  have own3 := H3.out.own 4
  rw [hmx] at own3
  have own3' : (u.drew).ownsRow (pb + 1) 143 4 (sl 4) m xs := own3
  have HMX := hide hmx
  have hlu := H3.out.lt
  clear hmx own3
  go_region_law (refine step_append_own rfl _ _ 64 rfl (pb + 1) 143 i0 _ 4 56 Tryz.underlying64 hi hz0 hz1 hz2 rfl (by decide) (sl 4) m xs rfl (own3'.alloc _) ⟨u.heap.size, 0, none⟩ 1 1 [_, _, _, _] (by simp [Act.eval]) rfl (cell_four_new _ _ _ _ _ _) (fun x hx => by simp at hx; rcases hx with rfl | rfl | rfl | rfl <;> rfl) (by unfold maxLen; omega) (by omega) (by simp; omega) ?_; intro v' w4 hown' hgrow4 hnil4 hblk4; obtain ⟨gv, cv, rfl⟩ := own_form hown' (by omega); have hk4 := PIn.kept (H3.out.drew.alloc _) 4 hgrow4; have q5 := (row_cell hk4 6).trans (show _ = some (sl 4) from rfl); have g5 := row_free hk4 6; have hf4 := (hgrow4.block fb (by simp; omega) hnf).trans ((Below.heap_alloc _ _ _ (by show fb < u.heap.size; omega)).trans HFB.out); have r1 := (row_cell hf4 0).trans (show _ = some (.int .i64 vv) from rfl); clear hf4; have O4 := hide hown'; have G4 := hide hgrow4; have B4 := hide hblk4; clear hown' hgrow4 hnil4 hblk4 hk4)
  all_goals
    have hprow : prow { st with runs := st.runs ++ [⟨vv, v1, v2, v3⟩] } 4 = (m + 1, xs ++ [.int .i64 vv, .string ⟨v1.toArray⟩, .string ⟨v2.toArray⟩, .string ⟨v3.toArray⟩]) := by
      have := HMX.out
      simp only [prow, Prod.mk.injEq] at this ⊢
      rw [← this.1, ← this.2]; simp [cmdV, strV]
    have hown2 : w4.ownsRow (pb + 1) (pty 4) (psz 4) (.slice (some ⟨gv, 0, none⟩) (m + 1) cv) (prow { st with runs := st.runs ++ [⟨vv, v1, v2, v3⟩] } 4).1 (prow { st with runs := st.runs ++ [⟨vv, v1, v2, v3⟩] } 4).2 := by rw [hprow]; exact O4.out
    have HP5 := hide (PIn.put (H3.out.drew.alloc _) 4 G4.out hown2 B4.out (fun j hj => by
      match j, hj with
      | 0, _ => rfl
      | 1, _ => rfl
      | 2, _ => rfl
      | 3, _ => rfl
      | 4, h => exact absurd rfl h
      | 5, _ => rfl) rfl)
    have HB5 : Hid (Below pb w (w4.setCell ⟨pb, 6, none⟩ (.slice (some ⟨gv, 0, none⟩) (m + 1) cv))) := hide (((show Below pb w w4 from ((HB3.out.drew.alloc (by show pb ≤ u.heap.size; omega) _).grown G4.out (by simp; omega) (fun k hk => by have := ((H3.out.own 4).lt k hk).1; omega)))).setCell (p := ⟨pb, 6, none⟩) (Nat.le_refl pb) _)
    clear hown2 hprow O4 G4 B4
    go_wp2_with fail
    go_ret
    exact ⟨rfl, _, HP5.out, HB5.out⟩

set_option maxRecDepth 100000 in
set_option maxHeartbeats 1000000 in
theorem line_wokens (pb q o n c : Nat) (nm ve : S) (st : St) (sl : Fin 6 → Value) (rest : List S) (hw : ∀ x ∈ rest, x.length ≤ 2000) (hn : rest.length = n) (vv : Int) (v1 v2 v3 : S) (ok : Bool) (hrc : Arc.pcmd rest = (⟨vv, v1, v2, v3⟩, ok)) (hrl : st.wokens.length ≤ 2000) (mx : Int) (w : World) (h : PIn pb nm ve st sl w) (hq : q < w.heap.size)
    (hm : w.cell? ⟨0, 0, none⟩ = some (.int .i64 mx)) (hc : ∀ j y, rest[j]? = some y → w.cell? ⟨q, o + j, none⟩ = some (.string ⟨y.toArray⟩)) :
    Calls Tryz.prog 71 #[.pointer (some ⟨pb, 0, none⟩), .int .i64 6, .slice (some ⟨q, o, none⟩) n c] w fun e w' => e = .returned (.bool (ok)) ∧ ∃ sl', PIn pb nm ve { st with wokens := st.wokens ++ [⟨vv, v1, v2, v3⟩] } sl' w' ∧ Below pb w w' := by
  obtain ⟨i0, hi, hz0, hz1, hz2⟩ := info_three info_cmd
  have hlt := h.lt
  have H := hide h
  have HC : Hid (Calls Tryz.prog 95 #[.slice (some ⟨q, o, none⟩) n c] w fun e w' => e = .returned (.tuple #[.agg #[.int .i64 vv, .string ⟨v1.toArray⟩, .string ⟨v2.toArray⟩, .string ⟨v3.toArray⟩], .bool ok]) ∧ Below w.heap.size w w') := hide (by
    have := command_any (some ⟨q, o, none⟩) q o c rest hw mx w (World.block_lt_of_cell? w _ hm) hm (fun _ => ⟨rfl, hq⟩) hc
    rw [hrc, hn] at this
    exact this)
  clear h hm hc hrc hn hw
  go_enter Tryz.func71, Tryz.ntmps71
  go_wp2_with (go_at_call 95; refine HC.out.mono ?_; rintro e w1 ⟨rfl, hb1⟩)
  have H1 := hide (H.out.below hb1)
  have HB1 := hide (hb1.mono (Nat.le_of_lt hlt))
  have H3 := hide (H1.out.alloc (.cells #[.int .i64 vv, .string ⟨v1.toArray⟩, .string ⟨v2.toArray⟩, .string ⟨v3.toArray⟩] 143))
  have HB3 := hide (HB1.out.alloc (Nat.le_of_lt H1.out.lt) (.cells #[.int .i64 vv, .string ⟨v1.toArray⟩, .string ⟨v2.toArray⟩, .string ⟨v3.toArray⟩] 143))
  have hfb := heap_alloc_new w1 (.cells #[.int .i64 vv, .string ⟨v1.toArray⟩, .string ⟨v2.toArray⟩, .string ⟨v3.toArray⟩] 143)
  have hus : (w1.alloc (.cells #[.int .i64 vv, .string ⟨v1.toArray⟩, .string ⟨v2.toArray⟩, .string ⟨v3.toArray⟩] 143)).heap.size = w1.heap.size + 1 := by simp
  have hnf : some w1.heap.size ≠ (sl 5).ownBlock := fun e => by have := ((H1.out.own 5).lt _ e.symm).2; omega
  have hl2 := H1.out.lt
  obtain ⟨fb, hfbe⟩ : ∃ fb, w1.heap.size = fb := ⟨_, rfl⟩
  generalize hu : w1.alloc (.cells #[.int .i64 vv, .string ⟨v1.toArray⟩, .string ⟨v2.toArray⟩, .string ⟨v3.toArray⟩] 143) = u at *
  rw [hfbe] at hfb hus hl2 hnf ⊢
  clear hu hfbe H1 HB1 hb1
  obtain ⟨l0, l1, l2, l3, -⟩ := four_free hfb
  have HFB := hide hfb
  have hne2 : ¬ fb = pb := by omega
  have hne3 : ¬ pb = fb := by omega
  clear hfb
  have k5 := (row_cell H3.out.blk 7).trans (show _ = some (sl 5) from rfl)
  have f5 := row_free H3.out.blk 7
  obtain ⟨m, xs, hmx⟩ : ∃ m xs, prow st 5 = (m, xs) := ⟨_, _, rfl⟩
  have hm1 : m ≤ 2000 := by have := congrArg Prod.fst hmx; simp only [prow] at this; omega
  have own3 := H3.out.own 5
  rw [hmx] at own3
  have own3' : (u.drew).ownsRow (pb + 1) 143 4 (sl 5) m xs := own3
  have HMX := hide hmx
  have hlu := H3.out.lt
  clear hmx own3
  go_region_law (refine step_append_own rfl _ _ 64 rfl (pb + 1) 143 i0 _ 4 56 Tryz.underlying64 hi hz0 hz1 hz2 rfl (by decide) (sl 5) m xs rfl (own3'.alloc _) ⟨u.heap.size, 0, none⟩ 1 1 [_, _, _, _] (by simp [Act.eval]) rfl (cell_four_new _ _ _ _ _ _) (fun x hx => by simp at hx; rcases hx with rfl | rfl | rfl | rfl <;> rfl) (by unfold maxLen; omega) (by omega) (by simp; omega) ?_; intro v' w4 hown' hgrow4 hnil4 hblk4; obtain ⟨gv, cv, rfl⟩ := own_form hown' (by omega); have hk4 := PIn.kept (H3.out.drew.alloc _) 5 hgrow4; have q5 := (row_cell hk4 7).trans (show _ = some (sl 5) from rfl); have g5 := row_free hk4 7; have O4 := hide hown'; have G4 := hide hgrow4; have B4 := hide hblk4; clear hown' hgrow4 hnil4 hblk4 hk4)
  all_goals
    have hprow : prow { st with wokens := st.wokens ++ [⟨vv, v1, v2, v3⟩] } 5 = (m + 1, xs ++ [.int .i64 vv, .string ⟨v1.toArray⟩, .string ⟨v2.toArray⟩, .string ⟨v3.toArray⟩]) := by
      have := HMX.out
      simp only [prow, Prod.mk.injEq] at this ⊢
      rw [← this.1, ← this.2]; simp [cmdV, strV]
    have hown2 : w4.ownsRow (pb + 1) (pty 5) (psz 5) (.slice (some ⟨gv, 0, none⟩) (m + 1) cv) (prow { st with wokens := st.wokens ++ [⟨vv, v1, v2, v3⟩] } 5).1 (prow { st with wokens := st.wokens ++ [⟨vv, v1, v2, v3⟩] } 5).2 := by rw [hprow]; exact O4.out
    have HP5 := hide (PIn.put (H3.out.drew.alloc _) 5 G4.out hown2 B4.out (fun j hj => by
      match j, hj with
      | 0, _ => rfl
      | 1, _ => rfl
      | 2, _ => rfl
      | 3, _ => rfl
      | 4, _ => rfl
      | 5, h => exact absurd rfl h) rfl)
    have HB5 : Hid (Below pb w (w4.setCell ⟨pb, 7, none⟩ (.slice (some ⟨gv, 0, none⟩) (m + 1) cv))) := hide (((show Below pb w w4 from ((HB3.out.drew.alloc (by show pb ≤ u.heap.size; omega) _).grown G4.out (by simp; omega) (fun k hk => by have := ((H3.out.own 5).lt k hk).1; omega)))).setCell (p := ⟨pb, 7, none⟩) (Nat.le_refl pb) _)
    clear hown2 hprow O4 G4 B4
    go_wp2_with fail
    go_ret
    exact ⟨rfl, _, HP5.out, HB5.out⟩
end Go.Proofs.YtgdmgmklncmanaaGreatDoor
