/- Of Ins: RlW4. -/
import Derived.Test.YtgdmgmklncmanaaGreatDoorIns22
import Derived.Test.YtgdmgmklncmanaaGreatDoorIns24
import Derived.BigQuiet
/- The walks over a line, the document's own answer: a file's. (Written by tools/gen_rlw4.py.) -/
namespace Go.Proofs.YtgdmgmklncmanaaGreatDoor
open Go.RowKit
open Arc (RSt RCmd S)

/-- The same with rows of whatever length: between two appends. -/
structure RG (ab : Nat) (tx nm ve : S) (R : Fin 8 → Nat × List Value) (sl : Fin 8 → Value) (w : World) : Prop where
  blk : w.heap[ab]? = some (.cells (rcells tx nm ve sl) 46 (0, 0))
  own : ∀ i, w.ownsRow (ab + 1) (rty i) (rsz i) (sl i) (R i).1 (R i).2
  apart : ∀ i j, i ≠ j → ∀ g, (sl i).ownBlock = some g → (sl j).ownBlock ≠ some g
theorem RIn.toG {ab : Nat} {tx : S} {st : RSt} {sl : Fin 8 → Value} {w : World} (h : RIn ab tx st sl w) : RG ab tx st.name st.version (rrow st) sl w := ⟨h.blk, h.own, h.apart⟩
theorem RG.lt {ab : Nat} {tx nm ve : S} {R : Fin 8 → Nat × List Value} {sl : Fin 8 → Value} {w : World} (h : RG ab tx nm ve R sl w) : ab < w.heap.size := (Array.getElem?_eq_some_iff.1 h.blk).1
theorem RG.below {ab : Nat} {tx nm ve : S} {R : Fin 8 → Nat × List Value} {sl : Fin 8 → Value} {w w' : World} (h : RG ab tx nm ve R sl w) (hb : Below w.heap.size w w') : RG ab tx nm ve R sl w' :=
  ⟨(hb.block _ h.lt).trans h.blk, fun i => own_below (h.own i) hb, h.apart⟩
theorem RG.drew {ab : Nat} {tx nm ve : S} {R : Fin 8 → Nat × List Value} {sl : Fin 8 → Value} {w : World} (h : RG ab tx nm ve R sl w) : RG ab tx nm ve R sl w.drew := ⟨h.blk, h.own, h.apart⟩
theorem RG.drewN {ab : Nat} {tx nm ve : S} {R : Fin 8 → Nat × List Value} {sl : Fin 8 → Value} {w : World} (h : RG ab tx nm ve R sl w) (n : Nat) : RG ab tx nm ve R sl (w.drewN n) := ⟨h.blk, h.own, h.apart⟩
theorem RG.alloc {ab : Nat} {tx nm ve : S} {R : Fin 8 → Nat × List Value} {sl : Fin 8 → Value} {w : World} (h : RG ab tx nm ve R sl w) (o : Obj) : RG ab tx nm ve R sl (w.alloc o) := h.below ((Below.refl _ w).alloc (Nat.le_refl _) o)
theorem RG.kept {ab : Nat} {tx nm ve : S} {R : Fin 8 → Nat × List Value} {sl : Fin 8 → Value} {w w' : World} (h : RG ab tx nm ve R sl w) (i : Fin 8) (hg : w.grownBy w' (sl i).ownBlock) : w'.heap[ab]? = some (.cells (rcells tx nm ve sl) 46 (0, 0)) := by
  refine (hg.block ab h.lt fun e => ?_).trans h.blk
  have := ((h.own i).lt ab e.symm).1
  omega
def rup (R : Fin 8 → Nat × List Value) (i : Fin 8) (x : Nat × List Value) : Fin 8 → Nat × List Value := fun j => if j = i then x else R j
theorem RG.rows {ab : Nat} {tx nm ve : S} {R : Fin 8 → Nat × List Value} {sl : Fin 8 → Value} {w w' : World} (h : RG ab tx nm ve R sl w) (i : Fin 8) {v' : Value} {x : Nat × List Value} (hg : w.grownBy w' (sl i).ownBlock)
    (hown : w'.ownsRow (ab + 1) (rty i) (rsz i) v' x.1 x.2) (hblk : v'.ownBlock = (sl i).ownBlock ∨ v'.ownBlock = some w.heap.size) :
    (∀ j, w'.ownsRow (ab + 1) (rty j) (rsz j) (rset sl i v' j) (rup R i x j).1 (rup R i x j).2) ∧ (∀ j k, j ≠ k → ∀ g, (rset sl i v' j).ownBlock = some g → (rset sl i v' k).ownBlock ≠ some g) := by
  refine ⟨fun j => ?_, fun j k hjk g hj hk => ?_⟩
  · by_cases e : j = i
    · subst e; simp only [rset, rup, if_pos]; exact hown
    · simp only [rset, rup, if_neg e]
      refine (h.own j).kept hg ?_
      cases hj : (sl j).ownBlock with
      | none => exact .inl rfl
      | some g => exact .inr fun e2 => h.apart j i e g hj e2.symm
  · have new : ∀ m : Fin 8, m ≠ i → (sl m).ownBlock = some g → v'.ownBlock ≠ some g := by
      intro m hm e1 e2
      rcases hblk with e3 | e3
      · exact h.apart m i hm g e1 (e3 ▸ e2)
      · have := ((h.own m).lt g e1).2
        rw [e3] at e2; cases e2; omega
    by_cases e : j = i
    · subst e
      simp only [rset, if_pos] at hj
      simp only [rset, if_neg (Ne.symm hjk)] at hk
      exact new k (Ne.symm hjk) hk hj
    · simp only [rset, if_neg e] at hj
      by_cases e2 : k = i
      · subst e2
        simp only [rset, if_pos] at hk
        exact new j e hj hk
      · simp only [rset, if_neg e2] at hk
        exact h.apart j k hjk g hj hk
theorem RG.put {ab : Nat} {tx nm ve : S} {R : Fin 8 → Nat × List Value} {sl : Fin 8 → Value} {w w' : World} (h : RG ab tx nm ve R sl w) (i : Fin 8) (hi : i.val < 6) {v' : Value} (x : Nat × List Value) (hg : w.grownBy w' (sl i).ownBlock)
    (hown : w'.ownsRow (ab + 1) (rty i) (rsz i) v' x.1 x.2) (hblk : v'.ownBlock = (sl i).ownBlock ∨ v'.ownBlock = some w.heap.size) : RG ab tx nm ve (rup R i x) (rset sl i v') (w'.setCell ⟨ab, 3 + i.val, none⟩ v') := by
  obtain ⟨h1, h2⟩ := h.rows i hg hown hblk
  refine ⟨?_, fun j => ownsRow_setCell_below (h1 j) (by simp) _, h2⟩
  rw [← rcells_set _ _ _ _ i hi]
  exact heap_setCell_same _ ab (3 + i.val) _ _ v' (h.kept i hg)
theorem RG.put' {ab : Nat} {tx nm ve : S} {R : Fin 8 → Nat × List Value} {sl : Fin 8 → Value} {w w' : World} (h : RG ab tx nm ve R sl w) (i : Fin 8) (hi : 6 ≤ i.val) {v' : Value} (x : Nat × List Value) (hg : w.grownBy w' (sl i).ownBlock)
    (hown : w'.ownsRow (ab + 1) (rty i) (rsz i) v' x.1 x.2) (hblk : v'.ownBlock = (sl i).ownBlock ∨ v'.ownBlock = some w.heap.size) : RG ab tx nm ve (rup R i x) (rset sl i v') w' := by
  obtain ⟨h1, h2⟩ := h.rows i hg hown hblk
  refine ⟨?_, h1, h2⟩
  rw [← rcells_far _ _ _ _ i hi]
  exact h.kept i hg
theorem RG.toIn {ab : Nat} {tx : S} {st : RSt} {R : Fin 8 → Nat × List Value} {sl : Fin 8 → Value} {w : World} (h : RG ab tx st.name st.version R sl w) (hR : ∀ i, R i = rrow st i) : RIn ab tx st sl w :=
  ⟨h.blk, fun i => by have := h.own i; rwa [hR i] at this, h.apart⟩
theorem info_rfile : (Tryz.prog.info? 48).map (fun i => (i.zero, i.size, i.bytes)) = some (some (.agg #[.string ByteArray.empty, .string ByteArray.empty]), 2, 32) := by kernel_rfl
theorem file_at (F : List (S × Int × S)) (k : Nat) (hk : k < F.length) : (F.flatMap fileV)[2 * k]? = some (strV (F.getD k ([], 0, [])).1) ∧ (F.flatMap fileV)[2 * k + 1]? = some (strV []) := by
  induction F generalizing k with
  | nil => simp at hk
  | cons a l ih =>
    cases k with
    | zero => simp [fileV]
    | succ k =>
      have := ih k (by simpa using hk)
      rw [show 2 * (k + 1) = 2 * k + 1 + 1 from by omega]
      simpa [fileV] using this
theorem allF_snoc {f : S × Int × S → Bool} {l : List (S × Int × S)} {i : Nat} (h : i < l.length) : (l.take (i + 1)).all f = ((l.take i).all f && f (l.getD i ([], 0, []))) := by
  rw [List.take_succ_eq_append_getElem h, List.all_append]
  simp [List.getD, List.getElem?_eq_getElem h]
/-- A word's cell behind an append onto a row elsewhere. -/
theorem grown_cell {w w' : World} {row : Option Nat} {q j : Nat} {v : Value} (hg : w.grownBy w' row) (hc : w.cell? ⟨q, j, none⟩ = some v) (hn : some q ≠ row) : w'.cell? ⟨q, j, none⟩ = some v := hg.cell hc hn

set_option maxRecDepth 100000 in
set_option maxHeartbeats 2000000 in
theorem rl_file_no (ab q c : Nat) (tx : S) (st : RSt) (sl : Fin 8 → Value) (x y z hs : S) (hk : rkd x = 6) (hy : y.length ≤ 2000) (hz : z.length ≤ 2000) (hrl : st.files.length ≤ 2000) (h1 : Wd.isPath y = false) (w : World) (h : RIn ab tx st sl w) (ho : Off ab q sl w)
    (c0 : w.cell? ⟨q, 0, none⟩ = some (.string ⟨x.toArray⟩)) (c1 : w.cell? ⟨q, 1, none⟩ = some (.string ⟨y.toArray⟩)) (c2 : w.cell? ⟨q, 2, none⟩ = some (.string ⟨z.toArray⟩)) (c3 : w.cell? ⟨q, 3, none⟩ = some (.string ⟨hs.toArray⟩)) :
    Calls Tryz.prog 23 #[.pointer (some ⟨ab, 0, none⟩), .slice (some ⟨q, 0, none⟩) 4 c, sl 6, sl 7] w fun e w' => ∃ sl', e = .returned (.tuple #[sl' 6, sl' 7, .bool (false && st.files.all fun f => f.1 != y)]) ∧ RIn ab tx { st with files := st.files ++ [(y, sz z, hs)] } sl' w' ∧ Below ab w w' := by
  obtain ⟨i1, hi1, hz10, hz11, hz12⟩ := info_three info_rfile
  obtain ⟨i2, hi2, hz20, hz21, hz22⟩ := info_three info_int
  obtain ⟨i3, hi3, hz30, hz31, hz32⟩ := info_three info_str
  have HK := hide hk
  have H := hide h
  have hlt := h.lt
  obtain ⟨hq, hqa, hqs⟩ := ho
  have HQS := hide hqs
  clear hk h hqs
  have hqa' : ¬ ab = q := fun e => hqa e.symm
  obtain ⟨zv, hzv⟩ : ∃ zv, sz z = zv := ⟨_, rfl⟩
  have HZV := hide hzv
  rw [hzv]
  clear hzv
  obtain ⟨m, hm⟩ : ∃ m, st.files.length = m := ⟨_, rfl⟩
  rw [hm] at hrl
  have HML := hide hm
  obtain ⟨ao, ac, hsl⟩ := slice_form (H.out.own 3)
  rw [show (rrow st 3).1 = m from hm] at hsl
  have HSL := hide hsl
  clear hm hsl
  go_enter Tryz.func23, Tryz.ntmps23
  go_wp2_with (first
    | (go_at_call 22; refine (rkind_any x _).mono ?_; rintro e w1 ⟨he, hb1⟩; rw [HK.out] at he; subst he; have d1 := (hb1.cell (p := ⟨q, 1, none⟩) hq).trans c1; have d2 := (hb1.cell (p := ⟨q, 2, none⟩) hq).trans c2; have d3 := (hb1.cell (p := ⟨q, 3, none⟩) hq).trans c3; have H1 := hide (H.out.below hb1).toG; have HB := hide (hb1.mono (Nat.le_of_lt hlt)); have hq1 : q < w1.heap.size := Nat.lt_of_lt_of_le hq hb1.size; clear hb1)
    | (go_at_call 47; refine (rsize_any z hz _).mono ?_; rintro e w' ⟨he, rfl⟩; rw [HZV.out] at he; subst he)
    | (go_at_call 46; refine (rIsPath_any y hy _).mono ?_; rintro e w' ⟨he, rfl⟩; rw [h1] at he; subst he))
  go_loopw [11, 16] (fun ok i wr => ∃ (j : Nat) (b : Bool), j ≤ m ∧ i = .int .i64 j ∧ ok = .bool b ∧ Hid (b = (false && (st.files.take j).all fun f => f.1 != y)) ∧ Hid (RG ab tx st.name st.version (rrow st) sl wr) ∧ Hid (Below ab w wr) ∧ q < wr.heap.size ∧ wr.cell? ⟨q, 1, none⟩ = some (.string ⟨y.toArray⟩) ∧ wr.cell? ⟨q, 3, none⟩ = some (.string ⟨hs.toArray⟩)) (fun _ i _ => m - (intOf i).toNat)
  case atStart => exact ⟨0, _, by omega, rfl, rfl, hide (by simp), H1, HB, hq1, d1, d3⟩
  case round =>
    clear H1 HB hq1 d1 d2 d3 H
    obtain ⟨j, b, hj, rfl, rfl, HA, H1, HB, hq1, d1, d3⟩ := hrel
    have hlw := H1.out.lt
    have k6 := (row_cell H1.out.blk 6).trans (show _ = some (sl 3) from rfl)
    rw [HSL.out] at k6
    by_cases hlt2 : j < m
    · have b2 : (j : Int) < (m : Int) := by omega
      have hjl : j < st.files.length := by rw [HML.out]; exact hlt2
      have hs1 := allF_snoc (f := fun f => f.1 != y) hjl
      obtain ⟨p, hp⟩ : ∃ p, st.files.getD j ([], 0, []) = p := ⟨_, rfl⟩
      obtain ⟨p1, p2⟩ := p
      have hfa := file_at st.files j hjl
      rw [hp] at hs1 hfa
      have own3 := H1.out.own 3
      rw [HSL.out, show (rrow st 3).1 = m from HML.out] at own3
      obtain ⟨g, cap, hv⟩ := own_form own3 (by omega)
      cases hv
      have hc : wr.cell? ⟨g, j * 2, none⟩ = some (.string ⟨p1.toArray⟩) := by
        rw [own3.cellAt (j * 2) (by show j * 2 < m * 2; omega), Nat.mul_comm]; exact hfa.1
      have HS := hide hs1
      clear hs1 hp hfa own3
      cases b
      · have HA2 : Hid (false = (false && (st.files.take (j + 1)).all fun f => f.1 != y)) := hide (by rw [HS.out, ← Bool.and_assoc, ← HA.out]; rfl)
        clear HA HS
        go_wp2_with fail
        go_quiet (fail)
        go_wp2_with fail
        refine ⟨⟨j + 1, false, by omega, by go_num, rfl, HA2, hide (H1.out.drewN _), hide (below_drewN HB.out _), hq1, d1, d3⟩, by simp [intOf]; omega⟩
      · have HA2 : Hid ((p1 != y) = (false && (st.files.take (j + 1)).all fun f => f.1 != y)) := hide (by rw [HS.out, ← Bool.and_assoc, ← HA.out]; rfl)
        clear HA HS
        go_wp2_with fail
        go_quiet (fail)
        go_wp2_with fail
        refine ⟨⟨j + 1, _, by omega, by go_num, rfl, HA2, hide (H1.out.drewN _), hide (below_drewN HB.out _), hq1, d1, d3⟩, by simp [intOf]; omega⟩
    · obtain rfl : j = m := by omega
      have HA2 : Hid (b = (false && st.files.all fun f => f.1 != y)) := hide (by have := HA.out; rwa [List.take_of_length_le (by rw [HML.out]; exact Nat.le_refl _)] at this)
      have f6 := row_free H1.out.blk 6
      have own3 := H1.out.own 3
      rw [HSL.out, show (rrow st 3).1 = j from HML.out] at own3
      obtain ⟨xs, hxs⟩ : ∃ xs, (rrow st 3).2 = xs := ⟨_, rfl⟩
      rw [hxs] at own3
      have own3' : (wr.drew).ownsRow (ab + 1) 48 2 (.slice ao j ac) j xs := own3
      have hq3 : some q ≠ (sl 3).ownBlock := fun e => HQS.out 3 e.symm
      rw [HSL.out] at hq3
      clear HA own3
      go_wp2_with fail
      go_region_law (refine step_append_own rfl _ _ 43 rfl (ab + 1) 48 i1 _ 2 32 Tryz.underlying43 hi1 hz10 hz11 hz12 rfl (by decide) (.slice ao j ac) j xs rfl (own3'.alloc _) ⟨wr.heap.size, 0, none⟩ 1 1 [_, _] (by simp [Act.eval]) rfl (cell_two_new _ _ _ _) (fun x hx => by simp at hx; rcases hx with rfl | rfl <;> rfl) (by unfold maxLen; omega) (by omega) (by simp; omega) ?_; intro v' w4 hown' hgrow4 hnil4 hblk4; obtain ⟨gv, cv, rfl⟩ := own_form hown' (by omega); have hg4 : (wr.drew.alloc (.cells #[.string ⟨y.toArray⟩, .string ⟨#[]⟩] 48)).grownBy w4 (sl 3).ownBlock := (by rw [HSL.out]; exact hgrow4); have hk4 := RG.kept (H1.out.drew.alloc _) 3 hg4; have q5 := (row_cell hk4 6).trans (show _ = some (sl 3) from rfl); have g5 := row_free hk4 6; have e3 := grown_cell hgrow4 ((Below.cell ((Below.refl _ wr.drew).alloc (Nat.le_refl _) _) (p := ⟨q, 3, none⟩) hq1).trans d3) hq3; have O4 := hide hown'; have G4 := hide hg4; have B4 := hide hblk4; have S4 := hide hgrow4.size; clear hown' hgrow4 hnil4 hblk4 hk4 hg4)
      all_goals
        have HP5 := hide (RG.put (H1.out.drew.alloc _) 3 (by decide) (j + 1, _) G4.out O4.out (by rw [HSL.out]; exact B4.out))
        have HB5 : Hid (Below ab w (w4.setCell ⟨ab, 6, none⟩ (.slice (some ⟨gv, 0, none⟩) (j + 1) cv))) := hide (((show Below ab w w4 from ((HB.out.drew.alloc (by show ab ≤ wr.heap.size; omega) _).grown G4.out (by simp; omega) (fun k hk => by have := ((H1.out.own 3).lt k hk).1; omega)))).setCell (p := ⟨ab, 6, none⟩) (Nat.le_refl ab) _)
        have hq4 : q < w4.heap.size := by have := S4.out; simp at this; omega
        have hq4n : gv ≠ q := by
          intro e
          rcases B4.out with e2 | e2
          · exact hq3 (by rw [← e2, ← e]; rfl)
          · simp [Value.ownBlock] at e2; omega
        have e3' : (w4.setCell ⟨ab, 6, none⟩ (.slice (some ⟨gv, 0, none⟩) (j + 1) cv)).cell? ⟨q, 3, none⟩ = some (.string ⟨hs.toArray⟩) := by rw [World.cell?_setCell_far _ _ _ _ (by show ab ≠ q; exact hqa')]; exact e3
        have hq5 : q < (w4.setCell ⟨ab, 6, none⟩ (.slice (some ⟨gv, 0, none⟩) (j + 1) cv)).heap.size := by simpa using hq4
        clear O4 G4 B4 S4 e3 q5 g5 hq4
        generalize hw5 : w4.setCell ⟨ab, 6, none⟩ (.slice (some ⟨gv, 0, none⟩) (j + 1) cv) = w5 at *
        clear hw5 HB H1
        have hl5 := HP5.out.lt
        have own6' : w5.ownsRow (ab + 1) 3 1 (sl 6) j (rrow st 6).2 := by have e : (rrow st 6).1 = j := HML.out; rw [← e]; exact HP5.out.own 6
        have hq6 : some q ≠ (sl 6).ownBlock := fun e => HQS.out 6 e.symm
        go_wp2_with (first
          | (at_builtin; refine wpList_append_own_at _ rfl _ _ 71 rfl (ab + 1) 3 i2 (.int .i64 0) 1 8 Tryz.underlying71 hi2 hz20 hz21 hz22 rfl (by decide) _ _ _ rfl (own6'.alloc _) ⟨w5.heap.size, 0, none⟩ 1 1 [.int .i64 zv] rfl rfl (cell_one_new _ _ _) (fun x hx => by simp at hx; subst hx; rfl) (by unfold maxLen; omega) (by omega) (by simp; omega) ?_; intro v6 w6 hown6 hgrow6 hnil6 hblk6; have HP6 := hide (RG.put' (HP5.out.alloc _) 6 (by decide) (j + 1, (rrow st 6).2 ++ [Value.int .i64 zv]) hgrow6 hown6 hblk6); have HB6 := hide ((HB5.out.alloc (Nat.le_of_lt hl5) _).grown hgrow6 (by simp; omega) (fun k hk => by have := (own6'.lt k hk).1; omega)); have hl6 := HP6.out.lt; have e6 := grown_cell hgrow6 ((Below.cell ((Below.refl _ w5).alloc (Nat.le_refl _) _) (p := ⟨q, 3, none⟩) hq5).trans e3') hq6; have own7' : w6.ownsRow (ab + 1) 9 1 (sl 7) j (rrow st 7).2 := (by have e : (rrow st 7).1 = j := HML.out; rw [← e]; exact HP6.out.own 7); clear hown6 hgrow6 hnil6 hblk6)
          | (at_builtin; refine wpList_append_own_at _ rfl _ _ 30 rfl (ab + 1) 9 i3 (.string ByteArray.empty) 1 16 Tryz.underlying30 hi3 hz30 hz31 hz32 rfl (by decide) _ _ _ rfl (own7'.alloc _) ⟨w6.heap.size, 0, none⟩ 1 1 [.string ⟨hs.toArray⟩] rfl rfl (cell_one_new _ _ _) (fun x hx => by simp at hx; subst hx; rfl) (by unfold maxLen; omega) (by omega) (by simp; omega) ?_; intro v7 w7 hown7 hgrow7 hnil7 hblk7; have HP7 := hide (RG.put' (HP6.out.alloc _) 7 (by decide) (j + 1, (rrow st 7).2 ++ [Value.string ⟨hs.toArray⟩]) hgrow7 hown7 hblk7); have HB7 := hide ((HB6.out.alloc (Nat.le_of_lt hl6) _).grown hgrow7 (by simp; omega) (fun k hk => by have := (own7'.lt k hk).1; omega)); clear hown7 hgrow7 hnil7 hblk7))
        refine bodyPost_ret (v := .tuple #[v6, v7, .bool b]) (by simp [results, Tryz.results23, go_sem]) rfl ⟨_, by rw [HA2.out]; rfl, RG.toIn (st := { st with files := st.files ++ [(y, zv, hs)] }) HP7.out (fun i => ?_), HB7.out⟩
        match i with
        | 0 => rfl
        | 1 => rfl
        | 2 => rfl
        | 3 => show (j + 1, _) = ((st.files ++ [(y, zv, hs)]).length, (st.files ++ [(y, zv, hs)]).flatMap fileV); rw [← hxs]; have := HML.out; simp [rrow, fileV, strV, this]
        | 4 => rfl
        | 5 => rfl
        | 6 => show (j + 1, _) = ((st.files ++ [(y, zv, hs)]).length, (st.files ++ [(y, zv, hs)]).map _); have := HML.out; simp [rrow, this]
        | 7 => show (j + 1, _) = ((st.files ++ [(y, zv, hs)]).length, (st.files ++ [(y, zv, hs)]).map _); have := HML.out; simp [rrow, strV, this]

set_option maxRecDepth 100000 in
set_option maxHeartbeats 2000000 in
theorem rl_file_under (ab q c : Nat) (tx : S) (st : RSt) (sl : Fin 8 → Value) (x y z hs : S) (hk : rkd x = 6) (hy : y.length ≤ 2000) (hz : z.length ≤ 2000) (hrl : st.files.length ≤ 2000) (h1 : Wd.isPath y = true) (h2 : Wd.under y = true) (w : World) (h : RIn ab tx st sl w) (ho : Off ab q sl w)
    (c0 : w.cell? ⟨q, 0, none⟩ = some (.string ⟨x.toArray⟩)) (c1 : w.cell? ⟨q, 1, none⟩ = some (.string ⟨y.toArray⟩)) (c2 : w.cell? ⟨q, 2, none⟩ = some (.string ⟨z.toArray⟩)) (c3 : w.cell? ⟨q, 3, none⟩ = some (.string ⟨hs.toArray⟩)) :
    Calls Tryz.prog 23 #[.pointer (some ⟨ab, 0, none⟩), .slice (some ⟨q, 0, none⟩) 4 c, sl 6, sl 7] w fun e w' => ∃ sl', e = .returned (.tuple #[sl' 6, sl' 7, .bool (false && st.files.all fun f => f.1 != y)]) ∧ RIn ab tx { st with files := st.files ++ [(y, sz z, hs)] } sl' w' ∧ Below ab w w' := by
  obtain ⟨i1, hi1, hz10, hz11, hz12⟩ := info_three info_rfile
  obtain ⟨i2, hi2, hz20, hz21, hz22⟩ := info_three info_int
  obtain ⟨i3, hi3, hz30, hz31, hz32⟩ := info_three info_str
  have HK := hide hk
  have H := hide h
  have hlt := h.lt
  obtain ⟨hq, hqa, hqs⟩ := ho
  have HQS := hide hqs
  clear hk h hqs
  have hqa' : ¬ ab = q := fun e => hqa e.symm
  obtain ⟨zv, hzv⟩ : ∃ zv, sz z = zv := ⟨_, rfl⟩
  have HZV := hide hzv
  rw [hzv]
  clear hzv
  obtain ⟨m, hm⟩ : ∃ m, st.files.length = m := ⟨_, rfl⟩
  rw [hm] at hrl
  have HML := hide hm
  obtain ⟨ao, ac, hsl⟩ := slice_form (H.out.own 3)
  rw [show (rrow st 3).1 = m from hm] at hsl
  have HSL := hide hsl
  clear hm hsl
  go_enter Tryz.func23, Tryz.ntmps23
  go_wp2_with (first
    | (go_at_call 22; refine (rkind_any x _).mono ?_; rintro e w1 ⟨he, hb1⟩; rw [HK.out] at he; subst he; have d1 := (hb1.cell (p := ⟨q, 1, none⟩) hq).trans c1; have d2 := (hb1.cell (p := ⟨q, 2, none⟩) hq).trans c2; have d3 := (hb1.cell (p := ⟨q, 3, none⟩) hq).trans c3; have H1 := hide (H.out.below hb1).toG; have HB := hide (hb1.mono (Nat.le_of_lt hlt)); have hq1 : q < w1.heap.size := Nat.lt_of_lt_of_le hq hb1.size; clear hb1)
    | (go_at_call 47; refine (rsize_any z hz _).mono ?_; rintro e w' ⟨he, rfl⟩; rw [HZV.out] at he; subst he)
    | (go_at_call 46; refine (rIsPath_any y hy _).mono ?_; rintro e w' ⟨he, rfl⟩; rw [h1] at he; subst he)
    | (go_at_call 48; refine (rbegins_any y _).mono ?_; rintro e w' ⟨he, rfl⟩; rw [h2] at he; subst he))
  go_loopw [11, 16] (fun ok i wr => ∃ (j : Nat) (b : Bool), j ≤ m ∧ i = .int .i64 j ∧ ok = .bool b ∧ Hid (b = (false && (st.files.take j).all fun f => f.1 != y)) ∧ Hid (RG ab tx st.name st.version (rrow st) sl wr) ∧ Hid (Below ab w wr) ∧ q < wr.heap.size ∧ wr.cell? ⟨q, 1, none⟩ = some (.string ⟨y.toArray⟩) ∧ wr.cell? ⟨q, 3, none⟩ = some (.string ⟨hs.toArray⟩)) (fun _ i _ => m - (intOf i).toNat)
  case atStart => exact ⟨0, _, by omega, rfl, rfl, hide (by simp), H1, HB, hq1, d1, d3⟩
  case round =>
    clear H1 HB hq1 d1 d2 d3 H
    obtain ⟨j, b, hj, rfl, rfl, HA, H1, HB, hq1, d1, d3⟩ := hrel
    have hlw := H1.out.lt
    have k6 := (row_cell H1.out.blk 6).trans (show _ = some (sl 3) from rfl)
    rw [HSL.out] at k6
    by_cases hlt2 : j < m
    · have b2 : (j : Int) < (m : Int) := by omega
      have hjl : j < st.files.length := by rw [HML.out]; exact hlt2
      have hs1 := allF_snoc (f := fun f => f.1 != y) hjl
      obtain ⟨p, hp⟩ : ∃ p, st.files.getD j ([], 0, []) = p := ⟨_, rfl⟩
      obtain ⟨p1, p2⟩ := p
      have hfa := file_at st.files j hjl
      rw [hp] at hs1 hfa
      have own3 := H1.out.own 3
      rw [HSL.out, show (rrow st 3).1 = m from HML.out] at own3
      obtain ⟨g, cap, hv⟩ := own_form own3 (by omega)
      cases hv
      have hc : wr.cell? ⟨g, j * 2, none⟩ = some (.string ⟨p1.toArray⟩) := by
        rw [own3.cellAt (j * 2) (by show j * 2 < m * 2; omega), Nat.mul_comm]; exact hfa.1
      have HS := hide hs1
      clear hs1 hp hfa own3
      cases b
      · have HA2 : Hid (false = (false && (st.files.take (j + 1)).all fun f => f.1 != y)) := hide (by rw [HS.out, ← Bool.and_assoc, ← HA.out]; rfl)
        clear HA HS
        go_wp2_with fail
        go_quiet (fail)
        go_wp2_with fail
        refine ⟨⟨j + 1, false, by omega, by go_num, rfl, HA2, hide (H1.out.drewN _), hide (below_drewN HB.out _), hq1, d1, d3⟩, by simp [intOf]; omega⟩
      · have HA2 : Hid ((p1 != y) = (false && (st.files.take (j + 1)).all fun f => f.1 != y)) := hide (by rw [HS.out, ← Bool.and_assoc, ← HA.out]; rfl)
        clear HA HS
        go_wp2_with fail
        go_quiet (fail)
        go_wp2_with fail
        refine ⟨⟨j + 1, _, by omega, by go_num, rfl, HA2, hide (H1.out.drewN _), hide (below_drewN HB.out _), hq1, d1, d3⟩, by simp [intOf]; omega⟩
    · obtain rfl : j = m := by omega
      have HA2 : Hid (b = (false && st.files.all fun f => f.1 != y)) := hide (by have := HA.out; rwa [List.take_of_length_le (by rw [HML.out]; exact Nat.le_refl _)] at this)
      have f6 := row_free H1.out.blk 6
      have own3 := H1.out.own 3
      rw [HSL.out, show (rrow st 3).1 = j from HML.out] at own3
      obtain ⟨xs, hxs⟩ : ∃ xs, (rrow st 3).2 = xs := ⟨_, rfl⟩
      rw [hxs] at own3
      have own3' : (wr.drew).ownsRow (ab + 1) 48 2 (.slice ao j ac) j xs := own3
      have hq3 : some q ≠ (sl 3).ownBlock := fun e => HQS.out 3 e.symm
      rw [HSL.out] at hq3
      clear HA own3
      go_wp2_with fail
      go_region_law (refine step_append_own rfl _ _ 43 rfl (ab + 1) 48 i1 _ 2 32 Tryz.underlying43 hi1 hz10 hz11 hz12 rfl (by decide) (.slice ao j ac) j xs rfl (own3'.alloc _) ⟨wr.heap.size, 0, none⟩ 1 1 [_, _] (by simp [Act.eval]) rfl (cell_two_new _ _ _ _) (fun x hx => by simp at hx; rcases hx with rfl | rfl <;> rfl) (by unfold maxLen; omega) (by omega) (by simp; omega) ?_; intro v' w4 hown' hgrow4 hnil4 hblk4; obtain ⟨gv, cv, rfl⟩ := own_form hown' (by omega); have hg4 : (wr.drew.alloc (.cells #[.string ⟨y.toArray⟩, .string ⟨#[]⟩] 48)).grownBy w4 (sl 3).ownBlock := (by rw [HSL.out]; exact hgrow4); have hk4 := RG.kept (H1.out.drew.alloc _) 3 hg4; have q5 := (row_cell hk4 6).trans (show _ = some (sl 3) from rfl); have g5 := row_free hk4 6; have e3 := grown_cell hgrow4 ((Below.cell ((Below.refl _ wr.drew).alloc (Nat.le_refl _) _) (p := ⟨q, 3, none⟩) hq1).trans d3) hq3; have O4 := hide hown'; have G4 := hide hg4; have B4 := hide hblk4; have S4 := hide hgrow4.size; clear hown' hgrow4 hnil4 hblk4 hk4 hg4)
      all_goals
        have HP5 := hide (RG.put (H1.out.drew.alloc _) 3 (by decide) (j + 1, _) G4.out O4.out (by rw [HSL.out]; exact B4.out))
        have HB5 : Hid (Below ab w (w4.setCell ⟨ab, 6, none⟩ (.slice (some ⟨gv, 0, none⟩) (j + 1) cv))) := hide (((show Below ab w w4 from ((HB.out.drew.alloc (by show ab ≤ wr.heap.size; omega) _).grown G4.out (by simp; omega) (fun k hk => by have := ((H1.out.own 3).lt k hk).1; omega)))).setCell (p := ⟨ab, 6, none⟩) (Nat.le_refl ab) _)
        have hq4 : q < w4.heap.size := by have := S4.out; simp at this; omega
        have hq4n : gv ≠ q := by
          intro e
          rcases B4.out with e2 | e2
          · exact hq3 (by rw [← e2, ← e]; rfl)
          · simp [Value.ownBlock] at e2; omega
        have e3' : (w4.setCell ⟨ab, 6, none⟩ (.slice (some ⟨gv, 0, none⟩) (j + 1) cv)).cell? ⟨q, 3, none⟩ = some (.string ⟨hs.toArray⟩) := by rw [World.cell?_setCell_far _ _ _ _ (by show ab ≠ q; exact hqa')]; exact e3
        have hq5 : q < (w4.setCell ⟨ab, 6, none⟩ (.slice (some ⟨gv, 0, none⟩) (j + 1) cv)).heap.size := by simpa using hq4
        clear O4 G4 B4 S4 e3 q5 g5 hq4
        generalize hw5 : w4.setCell ⟨ab, 6, none⟩ (.slice (some ⟨gv, 0, none⟩) (j + 1) cv) = w5 at *
        clear hw5 HB H1
        have hl5 := HP5.out.lt
        have own6' : w5.ownsRow (ab + 1) 3 1 (sl 6) j (rrow st 6).2 := by have e : (rrow st 6).1 = j := HML.out; rw [← e]; exact HP5.out.own 6
        have hq6 : some q ≠ (sl 6).ownBlock := fun e => HQS.out 6 e.symm
        go_wp2_with (first
          | (at_builtin; refine wpList_append_own_at _ rfl _ _ 71 rfl (ab + 1) 3 i2 (.int .i64 0) 1 8 Tryz.underlying71 hi2 hz20 hz21 hz22 rfl (by decide) _ _ _ rfl (own6'.alloc _) ⟨w5.heap.size, 0, none⟩ 1 1 [.int .i64 zv] rfl rfl (cell_one_new _ _ _) (fun x hx => by simp at hx; subst hx; rfl) (by unfold maxLen; omega) (by omega) (by simp; omega) ?_; intro v6 w6 hown6 hgrow6 hnil6 hblk6; have HP6 := hide (RG.put' (HP5.out.alloc _) 6 (by decide) (j + 1, (rrow st 6).2 ++ [Value.int .i64 zv]) hgrow6 hown6 hblk6); have HB6 := hide ((HB5.out.alloc (Nat.le_of_lt hl5) _).grown hgrow6 (by simp; omega) (fun k hk => by have := (own6'.lt k hk).1; omega)); have hl6 := HP6.out.lt; have e6 := grown_cell hgrow6 ((Below.cell ((Below.refl _ w5).alloc (Nat.le_refl _) _) (p := ⟨q, 3, none⟩) hq5).trans e3') hq6; have own7' : w6.ownsRow (ab + 1) 9 1 (sl 7) j (rrow st 7).2 := (by have e : (rrow st 7).1 = j := HML.out; rw [← e]; exact HP6.out.own 7); clear hown6 hgrow6 hnil6 hblk6)
          | (at_builtin; refine wpList_append_own_at _ rfl _ _ 30 rfl (ab + 1) 9 i3 (.string ByteArray.empty) 1 16 Tryz.underlying30 hi3 hz30 hz31 hz32 rfl (by decide) _ _ _ rfl (own7'.alloc _) ⟨w6.heap.size, 0, none⟩ 1 1 [.string ⟨hs.toArray⟩] rfl rfl (cell_one_new _ _ _) (fun x hx => by simp at hx; subst hx; rfl) (by unfold maxLen; omega) (by omega) (by simp; omega) ?_; intro v7 w7 hown7 hgrow7 hnil7 hblk7; have HP7 := hide (RG.put' (HP6.out.alloc _) 7 (by decide) (j + 1, (rrow st 7).2 ++ [Value.string ⟨hs.toArray⟩]) hgrow7 hown7 hblk7); have HB7 := hide ((HB6.out.alloc (Nat.le_of_lt hl6) _).grown hgrow7 (by simp; omega) (fun k hk => by have := (own7'.lt k hk).1; omega)); clear hown7 hgrow7 hnil7 hblk7))
        refine bodyPost_ret (v := .tuple #[v6, v7, .bool b]) (by simp [results, Tryz.results23, go_sem]) rfl ⟨_, by rw [HA2.out]; rfl, RG.toIn (st := { st with files := st.files ++ [(y, zv, hs)] }) HP7.out (fun i => ?_), HB7.out⟩
        match i with
        | 0 => rfl
        | 1 => rfl
        | 2 => rfl
        | 3 => show (j + 1, _) = ((st.files ++ [(y, zv, hs)]).length, (st.files ++ [(y, zv, hs)]).flatMap fileV); rw [← hxs]; have := HML.out; simp [rrow, fileV, strV, this]
        | 4 => rfl
        | 5 => rfl
        | 6 => show (j + 1, _) = ((st.files ++ [(y, zv, hs)]).length, (st.files ++ [(y, zv, hs)]).map _); have := HML.out; simp [rrow, this]
        | 7 => show (j + 1, _) = ((st.files ++ [(y, zv, hs)]).length, (st.files ++ [(y, zv, hs)]).map _); have := HML.out; simp [rrow, strV, this]

set_option maxRecDepth 100000 in
set_option maxHeartbeats 2000000 in
theorem rl_file_yes (ab q c : Nat) (tx : S) (st : RSt) (sl : Fin 8 → Value) (x y z hs : S) (hk : rkd x = 6) (hy : y.length ≤ 2000) (hz : z.length ≤ 2000) (hrl : st.files.length ≤ 2000) (h1 : Wd.isPath y = true) (h2 : Wd.under y = false) (w : World) (h : RIn ab tx st sl w) (ho : Off ab q sl w)
    (c0 : w.cell? ⟨q, 0, none⟩ = some (.string ⟨x.toArray⟩)) (c1 : w.cell? ⟨q, 1, none⟩ = some (.string ⟨y.toArray⟩)) (c2 : w.cell? ⟨q, 2, none⟩ = some (.string ⟨z.toArray⟩)) (c3 : w.cell? ⟨q, 3, none⟩ = some (.string ⟨hs.toArray⟩)) :
    Calls Tryz.prog 23 #[.pointer (some ⟨ab, 0, none⟩), .slice (some ⟨q, 0, none⟩) 4 c, sl 6, sl 7] w fun e w' => ∃ sl', e = .returned (.tuple #[sl' 6, sl' 7, .bool (decide (0 ≤ sz z) && st.files.all fun f => f.1 != y)]) ∧ RIn ab tx { st with files := st.files ++ [(y, sz z, hs)] } sl' w' ∧ Below ab w w' := by
  obtain ⟨i1, hi1, hz10, hz11, hz12⟩ := info_three info_rfile
  obtain ⟨i2, hi2, hz20, hz21, hz22⟩ := info_three info_int
  obtain ⟨i3, hi3, hz30, hz31, hz32⟩ := info_three info_str
  have HK := hide hk
  have H := hide h
  have hlt := h.lt
  obtain ⟨hq, hqa, hqs⟩ := ho
  have HQS := hide hqs
  clear hk h hqs
  have hqa' : ¬ ab = q := fun e => hqa e.symm
  obtain ⟨zv, hzv⟩ : ∃ zv, sz z = zv := ⟨_, rfl⟩
  have HZV := hide hzv
  rw [hzv]
  clear hzv
  obtain ⟨m, hm⟩ : ∃ m, st.files.length = m := ⟨_, rfl⟩
  rw [hm] at hrl
  have HML := hide hm
  obtain ⟨ao, ac, hsl⟩ := slice_form (H.out.own 3)
  rw [show (rrow st 3).1 = m from hm] at hsl
  have HSL := hide hsl
  clear hm hsl
  go_enter Tryz.func23, Tryz.ntmps23
  go_wp2_with (first
    | (go_at_call 22; refine (rkind_any x _).mono ?_; rintro e w1 ⟨he, hb1⟩; rw [HK.out] at he; subst he; have d1 := (hb1.cell (p := ⟨q, 1, none⟩) hq).trans c1; have d2 := (hb1.cell (p := ⟨q, 2, none⟩) hq).trans c2; have d3 := (hb1.cell (p := ⟨q, 3, none⟩) hq).trans c3; have H1 := hide (H.out.below hb1).toG; have HB := hide (hb1.mono (Nat.le_of_lt hlt)); have hq1 : q < w1.heap.size := Nat.lt_of_lt_of_le hq hb1.size; clear hb1)
    | (go_at_call 47; refine (rsize_any z hz _).mono ?_; rintro e w' ⟨he, rfl⟩; rw [HZV.out] at he; subst he)
    | (go_at_call 46; refine (rIsPath_any y hy _).mono ?_; rintro e w' ⟨he, rfl⟩; rw [h1] at he; subst he)
    | (go_at_call 48; refine (rbegins_any y _).mono ?_; rintro e w' ⟨he, rfl⟩; rw [h2] at he; subst he))
  go_loopw [11, 16] (fun ok i wr => ∃ (j : Nat) (b : Bool), j ≤ m ∧ i = .int .i64 j ∧ ok = .bool b ∧ Hid (b = (decide (0 ≤ zv) && (st.files.take j).all fun f => f.1 != y)) ∧ Hid (RG ab tx st.name st.version (rrow st) sl wr) ∧ Hid (Below ab w wr) ∧ q < wr.heap.size ∧ wr.cell? ⟨q, 1, none⟩ = some (.string ⟨y.toArray⟩) ∧ wr.cell? ⟨q, 3, none⟩ = some (.string ⟨hs.toArray⟩)) (fun _ i _ => m - (intOf i).toNat)
  case atStart => exact ⟨0, _, by omega, rfl, rfl, hide (by simp), H1, HB, hq1, d1, d3⟩
  case round =>
    clear H1 HB hq1 d1 d2 d3 H
    obtain ⟨j, b, hj, rfl, rfl, HA, H1, HB, hq1, d1, d3⟩ := hrel
    have hlw := H1.out.lt
    have k6 := (row_cell H1.out.blk 6).trans (show _ = some (sl 3) from rfl)
    rw [HSL.out] at k6
    by_cases hlt2 : j < m
    · have b2 : (j : Int) < (m : Int) := by omega
      have hjl : j < st.files.length := by rw [HML.out]; exact hlt2
      have hs1 := allF_snoc (f := fun f => f.1 != y) hjl
      obtain ⟨p, hp⟩ : ∃ p, st.files.getD j ([], 0, []) = p := ⟨_, rfl⟩
      obtain ⟨p1, p2⟩ := p
      have hfa := file_at st.files j hjl
      rw [hp] at hs1 hfa
      have own3 := H1.out.own 3
      rw [HSL.out, show (rrow st 3).1 = m from HML.out] at own3
      obtain ⟨g, cap, hv⟩ := own_form own3 (by omega)
      cases hv
      have hc : wr.cell? ⟨g, j * 2, none⟩ = some (.string ⟨p1.toArray⟩) := by
        rw [own3.cellAt (j * 2) (by show j * 2 < m * 2; omega), Nat.mul_comm]; exact hfa.1
      have HS := hide hs1
      clear hs1 hp hfa own3
      cases b
      · have HA2 : Hid (false = (decide (0 ≤ zv) && (st.files.take (j + 1)).all fun f => f.1 != y)) := hide (by rw [HS.out, ← Bool.and_assoc, ← HA.out]; rfl)
        clear HA HS
        go_wp2_with fail
        go_quiet (fail)
        go_wp2_with fail
        refine ⟨⟨j + 1, false, by omega, by go_num, rfl, HA2, hide (H1.out.drewN _), hide (below_drewN HB.out _), hq1, d1, d3⟩, by simp [intOf]; omega⟩
      · have HA2 : Hid ((p1 != y) = (decide (0 ≤ zv) && (st.files.take (j + 1)).all fun f => f.1 != y)) := hide (by rw [HS.out, ← Bool.and_assoc, ← HA.out]; rfl)
        clear HA HS
        go_wp2_with fail
        go_quiet (fail)
        go_wp2_with fail
        refine ⟨⟨j + 1, _, by omega, by go_num, rfl, HA2, hide (H1.out.drewN _), hide (below_drewN HB.out _), hq1, d1, d3⟩, by simp [intOf]; omega⟩
    · obtain rfl : j = m := by omega
      have HA2 : Hid (b = (decide (0 ≤ zv) && st.files.all fun f => f.1 != y)) := hide (by have := HA.out; rwa [List.take_of_length_le (by rw [HML.out]; exact Nat.le_refl _)] at this)
      have f6 := row_free H1.out.blk 6
      have own3 := H1.out.own 3
      rw [HSL.out, show (rrow st 3).1 = j from HML.out] at own3
      obtain ⟨xs, hxs⟩ : ∃ xs, (rrow st 3).2 = xs := ⟨_, rfl⟩
      rw [hxs] at own3
      have own3' : (wr.drew).ownsRow (ab + 1) 48 2 (.slice ao j ac) j xs := own3
      have hq3 : some q ≠ (sl 3).ownBlock := fun e => HQS.out 3 e.symm
      rw [HSL.out] at hq3
      clear HA own3
      go_wp2_with fail
      go_region_law (refine step_append_own rfl _ _ 43 rfl (ab + 1) 48 i1 _ 2 32 Tryz.underlying43 hi1 hz10 hz11 hz12 rfl (by decide) (.slice ao j ac) j xs rfl (own3'.alloc _) ⟨wr.heap.size, 0, none⟩ 1 1 [_, _] (by simp [Act.eval]) rfl (cell_two_new _ _ _ _) (fun x hx => by simp at hx; rcases hx with rfl | rfl <;> rfl) (by unfold maxLen; omega) (by omega) (by simp; omega) ?_; intro v' w4 hown' hgrow4 hnil4 hblk4; obtain ⟨gv, cv, rfl⟩ := own_form hown' (by omega); have hg4 : (wr.drew.alloc (.cells #[.string ⟨y.toArray⟩, .string ⟨#[]⟩] 48)).grownBy w4 (sl 3).ownBlock := (by rw [HSL.out]; exact hgrow4); have hk4 := RG.kept (H1.out.drew.alloc _) 3 hg4; have q5 := (row_cell hk4 6).trans (show _ = some (sl 3) from rfl); have g5 := row_free hk4 6; have e3 := grown_cell hgrow4 ((Below.cell ((Below.refl _ wr.drew).alloc (Nat.le_refl _) _) (p := ⟨q, 3, none⟩) hq1).trans d3) hq3; have O4 := hide hown'; have G4 := hide hg4; have B4 := hide hblk4; have S4 := hide hgrow4.size; clear hown' hgrow4 hnil4 hblk4 hk4 hg4)
      all_goals
        have HP5 := hide (RG.put (H1.out.drew.alloc _) 3 (by decide) (j + 1, _) G4.out O4.out (by rw [HSL.out]; exact B4.out))
        have HB5 : Hid (Below ab w (w4.setCell ⟨ab, 6, none⟩ (.slice (some ⟨gv, 0, none⟩) (j + 1) cv))) := hide (((show Below ab w w4 from ((HB.out.drew.alloc (by show ab ≤ wr.heap.size; omega) _).grown G4.out (by simp; omega) (fun k hk => by have := ((H1.out.own 3).lt k hk).1; omega)))).setCell (p := ⟨ab, 6, none⟩) (Nat.le_refl ab) _)
        have hq4 : q < w4.heap.size := by have := S4.out; simp at this; omega
        have hq4n : gv ≠ q := by
          intro e
          rcases B4.out with e2 | e2
          · exact hq3 (by rw [← e2, ← e]; rfl)
          · simp [Value.ownBlock] at e2; omega
        have e3' : (w4.setCell ⟨ab, 6, none⟩ (.slice (some ⟨gv, 0, none⟩) (j + 1) cv)).cell? ⟨q, 3, none⟩ = some (.string ⟨hs.toArray⟩) := by rw [World.cell?_setCell_far _ _ _ _ (by show ab ≠ q; exact hqa')]; exact e3
        have hq5 : q < (w4.setCell ⟨ab, 6, none⟩ (.slice (some ⟨gv, 0, none⟩) (j + 1) cv)).heap.size := by simpa using hq4
        clear O4 G4 B4 S4 e3 q5 g5 hq4
        generalize hw5 : w4.setCell ⟨ab, 6, none⟩ (.slice (some ⟨gv, 0, none⟩) (j + 1) cv) = w5 at *
        clear hw5 HB H1
        have hl5 := HP5.out.lt
        have own6' : w5.ownsRow (ab + 1) 3 1 (sl 6) j (rrow st 6).2 := by have e : (rrow st 6).1 = j := HML.out; rw [← e]; exact HP5.out.own 6
        have hq6 : some q ≠ (sl 6).ownBlock := fun e => HQS.out 6 e.symm
        go_wp2_with (first
          | (at_builtin; refine wpList_append_own_at _ rfl _ _ 71 rfl (ab + 1) 3 i2 (.int .i64 0) 1 8 Tryz.underlying71 hi2 hz20 hz21 hz22 rfl (by decide) _ _ _ rfl (own6'.alloc _) ⟨w5.heap.size, 0, none⟩ 1 1 [.int .i64 zv] rfl rfl (cell_one_new _ _ _) (fun x hx => by simp at hx; subst hx; rfl) (by unfold maxLen; omega) (by omega) (by simp; omega) ?_; intro v6 w6 hown6 hgrow6 hnil6 hblk6; have HP6 := hide (RG.put' (HP5.out.alloc _) 6 (by decide) (j + 1, (rrow st 6).2 ++ [Value.int .i64 zv]) hgrow6 hown6 hblk6); have HB6 := hide ((HB5.out.alloc (Nat.le_of_lt hl5) _).grown hgrow6 (by simp; omega) (fun k hk => by have := (own6'.lt k hk).1; omega)); have hl6 := HP6.out.lt; have e6 := grown_cell hgrow6 ((Below.cell ((Below.refl _ w5).alloc (Nat.le_refl _) _) (p := ⟨q, 3, none⟩) hq5).trans e3') hq6; have own7' : w6.ownsRow (ab + 1) 9 1 (sl 7) j (rrow st 7).2 := (by have e : (rrow st 7).1 = j := HML.out; rw [← e]; exact HP6.out.own 7); clear hown6 hgrow6 hnil6 hblk6)
          | (at_builtin; refine wpList_append_own_at _ rfl _ _ 30 rfl (ab + 1) 9 i3 (.string ByteArray.empty) 1 16 Tryz.underlying30 hi3 hz30 hz31 hz32 rfl (by decide) _ _ _ rfl (own7'.alloc _) ⟨w6.heap.size, 0, none⟩ 1 1 [.string ⟨hs.toArray⟩] rfl rfl (cell_one_new _ _ _) (fun x hx => by simp at hx; subst hx; rfl) (by unfold maxLen; omega) (by omega) (by simp; omega) ?_; intro v7 w7 hown7 hgrow7 hnil7 hblk7; have HP7 := hide (RG.put' (HP6.out.alloc _) 7 (by decide) (j + 1, (rrow st 7).2 ++ [Value.string ⟨hs.toArray⟩]) hgrow7 hown7 hblk7); have HB7 := hide ((HB6.out.alloc (Nat.le_of_lt hl6) _).grown hgrow7 (by simp; omega) (fun k hk => by have := (own7'.lt k hk).1; omega)); clear hown7 hgrow7 hnil7 hblk7))
        refine bodyPost_ret (v := .tuple #[v6, v7, .bool b]) (by simp [results, Tryz.results23, go_sem]) rfl ⟨_, by rw [HA2.out]; rfl, RG.toIn (st := { st with files := st.files ++ [(y, zv, hs)] }) HP7.out (fun i => ?_), HB7.out⟩
        match i with
        | 0 => rfl
        | 1 => rfl
        | 2 => rfl
        | 3 => show (j + 1, _) = ((st.files ++ [(y, zv, hs)]).length, (st.files ++ [(y, zv, hs)]).flatMap fileV); rw [← hxs]; have := HML.out; simp [rrow, fileV, strV, this]
        | 4 => rfl
        | 5 => rfl
        | 6 => show (j + 1, _) = ((st.files ++ [(y, zv, hs)]).length, (st.files ++ [(y, zv, hs)]).map _); have := HML.out; simp [rrow, this]
        | 7 => show (j + 1, _) = ((st.files ++ [(y, zv, hs)]).length, (st.files ++ [(y, zv, hs)]).map _); have := HML.out; simp [rrow, strV, this]
end Go.Proofs.YtgdmgmklncmanaaGreatDoor
