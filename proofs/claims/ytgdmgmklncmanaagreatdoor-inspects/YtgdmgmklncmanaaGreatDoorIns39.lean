/- Of Ins: InsW8, InsW9, InsW10. -/
import Derived.Test.YtgdmgmklncmanaaGreatDoorIns37
import Derived.Test.YtgdmgmklncmanaaGreatDoorIns38
import Derived.BigQuiet
import Derived.Deep.CutRange
/- The walk over the law itself: what both readings of an archive leave. -/
namespace Go.Proofs.YtgdmgmklncmanaaGreatDoor
open Go.RowKit
open Arc (St RSt RCmd S)

theorem kept_rows {w : World} {wb kb kc n : Nat} {l va vb vc : Value} (hn : n ≤ 1000) (h0 : Marked mkV l n w) (h1 : Marked mkV va (n + 1) w) (h2 : Marked mkV vb (n + 2) w) (h3 : Marked mkV vc (n + 3) w)
    (ho : w.ownsRow (wb + 1) 85 4 (.slice (some ⟨kb, 0, none⟩) 4 kc) 4 (keptV l ++ keptV va ++ keptV vb ++ keptV vc)) : ∀ k, k < 4 → KeptAt kb k w := by
  have e : ∀ j, j < 16 → w.cell? ⟨kb, j, none⟩ = (keptV l ++ keptV va ++ keptV vb ++ keptV vc)[j]? := fun j hj => ho.cellAt j (by omega)
  intro k hk
  rcases (show k = 0 ∨ k = 1 ∨ k = 2 ∨ k = 3 by omega) with rfl | rfl | rfl | rfl
  · exact ⟨l, n, by omega, h0, (e 0 (by omega)).trans rfl, (e 1 (by omega)).trans rfl, (e 2 (by omega)).trans rfl, (e 3 (by omega)).trans rfl⟩
  · exact ⟨va, n + 1, by omega, h1, (e 4 (by omega)).trans rfl, (e 5 (by omega)).trans rfl, (e 6 (by omega)).trans rfl, (e 7 (by omega)).trans rfl⟩
  · exact ⟨vb, n + 2, by omega, h2, (e 8 (by omega)).trans rfl, (e 9 (by omega)).trans rfl, (e 10 (by omega)).trans rfl, (e 11 (by omega)).trans rfl⟩
  · exact ⟨vc, n + 3, by omega, h3, (e 12 (by omega)).trans rfl, (e 13 (by omega)).trans rfl, (e 14 (by omega)).trans rfl, (e 15 (by omega)).trans rfl⟩

/-- What the program said of the text, in numbers. -/
def InSome (nm ve : S) (n0 n1 n2 n3 n4 n5 : Nat) (F : List (S × S)) (w : World) : Ending → World → Prop := fun e w' =>
  ∃ o, e = .returned (.tuple #[.agg #[.string ⟨nm.toArray⟩, .string ⟨ve.toArray⟩, .int .i64 n0, .int .i64 n1, .int .i64 n2, .int .i64 n3, .int .i64 n4, .int .i64 n5, o], .int .i64 0]) ∧ w'.ownsRow w.heap.size 9 1 o n3 (pathV F n3) ∧ Below w.heap.size w w'
/-- What the document's reading said of it. -/
def RdSome (nm ve : S) (n0 n1 n2 n3 n4 n5 : Nat) (F : List (S × S)) (w : World) : Ending → World → Prop := fun e w' =>
  ∃ (ab : Nat) (tx : S) (a0 a1 a2 a3 a4 a5 : Option Addr) (c0 c1 c2 c3 c4 c5 : Nat), e = .returned (.pointer (some ⟨ab, 0, none⟩)) ∧ w.heap.size ≤ ab ∧
    w'.heap[ab]? = some (.cells #[.string ⟨tx.toArray⟩, .string ⟨nm.toArray⟩, .string ⟨ve.toArray⟩, .slice a0 n0 c0, .slice a1 n1 c1, .slice a2 n2 c2, .slice a3 n3 c3, .slice a4 n4 c4, .slice a5 n5 c5] 46 (0, 0)) ∧
    (∀ k, k < n3 → ∃ g, a3 = some ⟨g, 0, none⟩ ∧ ab < g ∧ g < w'.heap.size ∧ w'.cell? ⟨g, k * 2, none⟩ = some (.string ⟨(F.getD k ([], [])).1.toArray⟩)) ∧ Below w.heap.size w w'
theorem rd_some {x : S} {rst : RSt} {F : List (S × S)} {w : World} {e : Ending} {w' : World} (h : RdPost x (some (rst, F)) w e w') :
    RdSome rst.name rst.version rst.needs.length rst.breaks.length rst.wakes.length F.length rst.runs.length rst.wokens.length F w e w' := by
  obtain ⟨ab, sl, rfl, hab, hf, hl, hb⟩ := h
  have o0 := hf.own 0
  have o1 := hf.own 1
  have o2 := hf.own 2
  have o3 := hf.own 3
  have o4 := hf.own 4
  have o5 := hf.own 5
  have hblk := hf.blk
  obtain ⟨a0, c0, e0⟩ := slice_form o0
  obtain ⟨a1, c1, e1⟩ := slice_form o1
  obtain ⟨a2, c2, e2⟩ := slice_form o2
  obtain ⟨a3, c3, e3⟩ := slice_form o3
  obtain ⟨a4, c4, e4⟩ := slice_form o4
  obtain ⟨a5, c5, e5⟩ := slice_form o5
  have o3' : w'.ownsRow (ab + 1) 48 2 (sl 3) F.length (rowF F []) := by rw [hl]; exact o3
  refine ⟨ab, x, a0, a1, a2, a3, a4, a5, c0, c1, c2, c3, c4, c5, rfl, hab, ?_, fun k hk => ?_, hb⟩
  · rw [hblk, rcells, e0, e1, e2, e3, e4, e5]
    simp only [rup, rrow, hl]
    rfl
  · obtain ⟨g, cap, hv⟩ := own_form o3' (by omega)
    have hv' := hv
    rw [e3] at hv
    simp only [Value.slice.injEq] at hv
    obtain ⟨rfl, -, -⟩ := hv
    rw [hv'] at o3'
    refine ⟨g, rfl, (o3'.lt g rfl).1, (o3'.lt g rfl).2, ?_⟩
    rw [o3'.cellAt _ (by omega), rowF, List.flatMap_nil, List.append_nil, Nat.mul_comm]
    exact (pair_at F k hk).1
end Go.Proofs.YtgdmgmklncmanaaGreatDoor
/- The walk over the law itself: an archive. -/
namespace Go.Proofs.YtgdmgmklncmanaaGreatDoor
open Go.RowKit
open Arc (St RSt RCmd S)

theorem KeptAt.below {kb k : Nat} {w w' : World} (h : KeptAt kb k w) (hb : Below w.heap.size w w') : KeptAt kb k w' := by
  obtain ⟨v, n, hn, hm, c0, c1, c2, c3⟩ := h
  exact ⟨v, n, hn, hm.keeps (Keeps.below hb), (hb.cell (World.block_lt_of_cell? w _ c0)).trans c0, (hb.cell (World.block_lt_of_cell? w _ c1)).trans c1, (hb.cell (World.block_lt_of_cell? w _ c2)).trans c2, (hb.cell (World.block_lt_of_cell? w _ c3)).trans c3⟩

set_option maxRecDepth 100000 in
set_option maxHeartbeats 20000000 in
theorem inspects_walk (x nm ve : S) (n0 n1 n2 n3 n4 n5 : Nat) (F : List (S × S)) (hF : F.length = n3) (hn3 : n3 ≤ 30) (hn : n0 ≤ 30 ∧ n1 ≤ 30 ∧ n2 ≤ 30 ∧ n4 ≤ 30 ∧ n5 ≤ 30) (w : World)
    (HP : Hid (Calls Tryz.prog 5 #[] w fun e w' => e = .returned (.bool true) ∧ Below w.heap.size w w'))
    (HI : Hid (∀ w1, Below w.heap.size w w1 → Calls Tryz.prog 9 #[.string ⟨x.toArray⟩] w1 (InSome nm ve n0 n1 n2 n3 n4 n5 F w1)))
    (HR : Hid (∀ w1, Calls Tryz.prog 10 #[.string ⟨x.toArray⟩] w1 (RdSome nm ve n0 n1 n2 n3 n4 n5 F w1))) :
    Calls Tryz.prog 4 #[.string ⟨x.toArray⟩] w fun e w' => e = .returned (.bool true) ∧ Below w.heap.size w w' := by
  obtain ⟨hn0, hn1, hn2, hn4, hn5⟩ := hn
  have q1 : (nm == nm) = true := by simp
  have q2 : (ve == ve) = true := by simp
  go_enter Tryz.func4, Tryz.ntmps4
  go_wp2_with fail
  refine HP.out.mono ?_
  rintro e w1 ⟨rfl, hb1⟩
  have HB1 := hide hb1
  clear hb1 HP
  go_wp2_with fail
  refine (HI.out _ HB1.out).mono ?_
  rintro e w2 ⟨o, rfl, hown, hb2⟩
  obtain ⟨ao, oc, rfl⟩ := slice_form hown
  have hs1 := HB1.out.size
  have HB2 := hide (HB1.out.trans (hb2.mono hs1))
  have HO := hide (own_le hown hs1)
  have hob := hown.lt
  clear hb2 HB1 hown
  go_wp2_with fail
  have hs2 := HB2.out.size
  have hrow := heap_alloc_new w2 (.cells #[.string ⟨nm.toArray⟩, .string ⟨ve.toArray⟩, .int .i64 n0, .int .i64 n1, .int .i64 n2, .int .i64 n3, .int .i64 n4, .int .i64 n5, .slice ao n3 oc] 32)
  have hba := HB2.out.alloc hs2 (.cells #[.string ⟨nm.toArray⟩, .string ⟨ve.toArray⟩, .int .i64 n0, .int .i64 n1, .int .i64 n2, .int .i64 n3, .int .i64 n4, .int .i64 n5, .slice ao n3 oc] 32)
  refine (HR.out _).mono ?_
  rintro e w3 ⟨ab, tx, a0, a1, a2, a3, a4, a5, c0, c1, c2, c3, c4, c5, rfl, hab, hblk, hfl, hb3⟩
  have hrow3 := (hb3.block w2.heap.size (by simp)).trans hrow
  have hl3 : w2.heap.size < w3.heap.size := (Array.getElem?_eq_some_iff.1 hrow3).1
  have hs3 := hb3.size
  simp at hs3
  have hwA : w.heap.size ≤ w2.heap.size := hs2
  obtain ⟨-, -, -, -, -, -, -, -, y8, -⟩ := nine_all hrow3
  obtain ⟨v0, v1, v2, v3, v4, v5, v6, v7, v8, -⟩ := nine_all hrow3
  obtain ⟨u0, u1, u2, u3, u4, u5, u6, u7, u8, -⟩ := nine_all hblk
  have HB3 := hide (hba.trans (hb3.mono hba.size))
  have HO3 := hide (own_below (HO.out.alloc _) hb3)
  have hgn : ∀ g, (Value.slice ao n3 oc).ownBlock = some g → g < w2.heap.size ∧ w.heap.size ≤ g := fun g hg => ⟨(HO.out.lt g hg).2, (HO.out.lt g hg).1⟩
  have HG := hide hgn
  have hpc : ∀ k, k < n3 → ∃ g, ao = some ⟨g, 0, none⟩ ∧ g < w3.heap.size ∧ w3.cell? ⟨g, k, none⟩ = some (.string ⟨(F.getD k ([], [])).1.toArray⟩) := fun k hk => by
    obtain ⟨g, cap, hv⟩ := own_form HO3.out (by omega)
    cases hv
    refine ⟨g, rfl, (HO3.out.lt g rfl).2, ?_⟩
    rw [HO3.out.cellAt k (by omega), pathV, List.getElem?_map, List.getElem?_take, if_pos hk, List.getD, List.getElem?_eq_getElem (by omega)]
    rfl
  have HPC := hide hpc
  have HFC := hide hfl
  have hal : ab < w3.heap.size := (Array.getElem?_eq_some_iff.1 hblk).1
  have hA2 : w2.heap.size < ab := by simp at hab; omega
  have HBL := hide hblk
  obtain ⟨A, hA⟩ : ∃ A, w2.heap.size = A := ⟨_, rfl⟩
  have HG := hide (show ∀ g, (Value.slice ao n3 oc).ownBlock = some g → g < A ∧ w.heap.size ≤ g from fun g hg => by have := HG.out g hg; omega)
  rw [hA] at hl3 v0 v1 v2 v3 v4 v5 v6 v7 v8 hA2 hwA ⊢
  clear hrow hba hrow3 hb3 hA HB2 HR hblk hpc hfl hab y8 hgn hob hs3 hs2 hs1 HO
  have hne1 : ¬ w3.heap.size = A := by omega
  have hne2 : ¬ w3.heap.size = ab := by omega
  have g3 : (n3 : Int) ≤ 30 := by omega
  go_wp2_with fail
  obtain ⟨W4, hW4⟩ : ∃ W4, w3.alloc (.cells #[.slice none 0 0, .slice none 0 0, .int .i64 0, .slice none 0 0] 41) = W4 := ⟨_, rfl⟩
  obtain ⟨wb, hwb⟩ : ∃ wb, w3.heap.size = wb := ⟨_, rfl⟩
  have HX4 : Hid (Below w3.heap.size w3 W4) := hide (by rw [← hW4]; exact (Below.refl _ w3).alloc (Nat.le_refl _) _)
  have hs4 : W4.heap.size = wb + 1 := by rw [← hW4, ← hwb]; simp
  have HWB4 : Hid (WB wb (.slice none 0 0) (.slice none 0 0) (.int .i64 0) (.slice none 0 0) W4) := hide (by rw [← hW4, ← hwb]; exact heap_alloc_new w3 _)
  have HB4 : Hid (Below w.heap.size w W4) := hide (HB3.out.trans (HX4.out.mono HB3.out.size))
  have HO4 := hide (own_below HO3.out HX4.out)
  have HBL4 := hide ((HX4.out.block ab hal).trans HBL.out)
  have HV8 := hide ((HX4.out.cell (p := ⟨A, 8, none⟩) hl3).trans v8)
  have HU6 := hide ((HX4.out.cell (p := ⟨ab, 6, none⟩) hal).trans u6)
  have HPC4 : Hid (∀ k, k < n3 → ∃ g, ao = some ⟨g, 0, none⟩ ∧ g < W4.heap.size ∧ W4.cell? ⟨g, k, none⟩ = some (.string ⟨(F.getD k ([], [])).1.toArray⟩)) := hide (fun k hk => by
    obtain ⟨g, e, hg, hc⟩ := HPC.out k hk
    exact ⟨g, e, by have := HX4.out.size; omega, (HX4.out.cell (p := ⟨g, k, none⟩) hg).trans hc⟩)
  have HFC4 : Hid (∀ k, k < n3 → ∃ g, a3 = some ⟨g, 0, none⟩ ∧ g < W4.heap.size ∧ W4.cell? ⟨g, k * 2, none⟩ = some (.string ⟨(F.getD k ([], [])).1.toArray⟩)) := hide (fun k hk => by
    obtain ⟨g, e, hg0, hg, hc⟩ := HFC.out k hk
    exact ⟨g, e, by have := HX4.out.size; omega, (HX4.out.cell (p := ⟨g, k * 2, none⟩) hg).trans hc⟩)
  have hAwb : A < wb := by omega
  have habwb : ab < wb := by omega
  have v0 := (HX4.out.cell (p := ⟨A, 0, none⟩) hl3).trans v0
  have v1 := (HX4.out.cell (p := ⟨A, 1, none⟩) hl3).trans v1
  have v2 := (HX4.out.cell (p := ⟨A, 2, none⟩) hl3).trans v2
  have v3 := (HX4.out.cell (p := ⟨A, 3, none⟩) hl3).trans v3
  have v4 := (HX4.out.cell (p := ⟨A, 4, none⟩) hl3).trans v4
  have v5 := (HX4.out.cell (p := ⟨A, 5, none⟩) hl3).trans v5
  have v6 := (HX4.out.cell (p := ⟨A, 6, none⟩) hl3).trans v6
  have v7 := (HX4.out.cell (p := ⟨A, 7, none⟩) hl3).trans v7
  have v8 := (HX4.out.cell (p := ⟨A, 8, none⟩) hl3).trans v8
  have u1 := (HX4.out.cell (p := ⟨ab, 1, none⟩) hal).trans u1
  have u2 := (HX4.out.cell (p := ⟨ab, 2, none⟩) hal).trans u2
  have u3 := (HX4.out.cell (p := ⟨ab, 3, none⟩) hal).trans u3
  have u4 := (HX4.out.cell (p := ⟨ab, 4, none⟩) hal).trans u4
  have u5 := (HX4.out.cell (p := ⟨ab, 5, none⟩) hal).trans u5
  have u6 := (HX4.out.cell (p := ⟨ab, 6, none⟩) hal).trans u6
  have u7 := (HX4.out.cell (p := ⟨ab, 7, none⟩) hal).trans u7
  have u8 := (HX4.out.cell (p := ⟨ab, 8, none⟩) hal).trans u8
  rw [hW4, hwb]
  clear HB3 HO3 HPC HFC HBL hW4 HX4 hne1 hne2 hl3 hal g3
  go_cut [131] from 45 to 131 (fun c wx => c = .bool false ∧ ∃ nq, wx = W4.drewN nq)
  case first =>
    go_quiet (fail)
    go_wp2_with fail
    go_meet
    exact ⟨rfl, _, rfl⟩
  case rest =>
  obtain ⟨rfl, nq, rfl⟩ := hcut
  clear v0 v1 v2 v3 v4 v5 v6 v7 v8 u1 u2 u3 u4 u5 u6 u7 u8
  go_wp2_with fail
  go_loopw [8] (fun i wr => ∃ k : Nat, k ≤ n3 ∧ i = .int .i64 (k : Int) ∧ Hid (Below W4.heap.size W4 wr)) (fun i _ => n3 - (intOf i).toNat)
  case atStart => exact ⟨0, by omega, rfl, hide (below_drewN (Below.refl _ _) _)⟩
  case round =>
    obtain ⟨k, hk, rfl, HB⟩ := hrel
    have v8 := (HB.out.cell (p := ⟨A, 8, none⟩) (by show A < _; omega)).trans HV8.out
    have u6 := (HB.out.cell (p := ⟨ab, 6, none⟩) (by show ab < _; omega)).trans HU6.out
    by_cases hlt : k < n3
    · have b1 : (k : Int) < (n3 : Int) := by omega
      obtain ⟨g, rfl, hg, hc⟩ := HPC4.out k hlt
      obtain ⟨g', rfl, hg', hc'⟩ := HFC4.out k hlt
      obtain ⟨p, hp⟩ : ∃ p, (F.getD k ([], [])).1 = p := ⟨_, rfl⟩
      rw [hp] at hc hc'
      have x1 := (HB.out.cell (p := ⟨g, k, none⟩) hg).trans hc
      have x2 := (HB.out.cell (p := ⟨g', k * 2, none⟩) hg').trans hc'
      have q3 : (p == p) = true := by simp
      clear hc hc' hp hg hg'
      go_wp2_with fail
      go_quiet (fail)
      go_wp2_with fail
      exact ⟨⟨k + 1, by omega, by go_num, hide (below_drewN HB.out _)⟩, by simp [intOf]; omega⟩
    · obtain rfl : k = n3 := by omega
      have b1 : ¬ (k : Int) < (k : Int) := by omega
      have HW := hide ((HB.out.block wb (by omega)).trans HWB4.out)
      have HOw := hide (own_below HO4.out HB.out)
      have hob : (Value.slice ao k oc).ownBlock ≠ some wb := fun e => by have := (HG.out wb e).1; omega
      have HBw := hide (HB4.out.trans (HB.out.mono HB4.out.size))
      have HBLw := hide ((HB.out.block ab (by omega)).trans HBL4.out)
      have hws : wb < wr.heap.size := by have := HB.out.size; omega
      clear HWB4 HO4 HB4 HBL4 HV8 HU6 HPC4 HFC4
      go_wp2_with fail
      refine (strings_any wb _ k _ _ _ _ (by omega) _ hob HW.out HOw.out).mono ?_
      rintro e w5 ⟨u, va, vb, vc, kb, kc, rfl, hm0, hm1, hm2, hm3, hkr, hwb5, hf5⟩
      have HK5 := hide (kept_rows (by omega) hm0 hm1 hm2 hm3 hkr)
      have HW5 := hide hwb5
      have HB5 := hide (HBw.out.trans (hf5.toBelow HBw.out.size (fun q hq hf => by
        rcases hf with rfl | hf
        · omega
        · have := (HG.out q hf).2; omega)))
      have HBL5 := hide ((hf5.block ab (by omega) (fun hf => by
        rcases hf with h | hf
        · omega
        · have := (HG.out ab hf).1; omega)).trans HBLw.out)
      clear hm0 hm1 hm2 hm3 hkr hwb5 hf5 HBLw HBw HOw HW HB hob v8 u6
      go_wp2_with fail
      refine (HI.out _ HB5.out).mono ?_
      rintro e w6 ⟨o6, rfl, hown6, hb6⟩
      obtain ⟨ao6, oc6, rfl⟩ := slice_form hown6
      have HB6 := hide (HB5.out.trans (hb6.mono HB5.out.size))
      have HW6 := hide ((hb6.block wb (lt_of_block HW5.out)).trans HW5.out)
      have HBL6 := hide ((hb6.block ab (lt_of_block HBL5.out)).trans HBL5.out)
      have HK6 := hide (fun q (hq : q < 4) => (HK5.out q hq).below hb6)
      have hab6 := lt_of_block HBL6.out
      clear hown6 hb6 HB5 HW5 HBL5 HK5 HI
      go_wp2_with fail
      refine (still_any wb kb kc _ _ _ _ (WB.alloc HW6.out _) (fun q hq => (HK6.out q hq).below ((Below.refl _ _).alloc (Nat.le_refl _) _))).mono ?_
      rintro e w8 ⟨rfl, hb8⟩
      have y8 := (hb8.cell (p := ⟨w6.heap.size, 8, none⟩) (by simp)).trans ((row_cell (heap_alloc_new w6 _) 8).trans (show _ = some (.slice ao6 k oc6) from rfl))
      have u6 := (hb8.cell (p := ⟨ab, 6, none⟩) (by simp; omega)).trans ((World.cell?_of_block (a := ⟨ab, 6, none⟩) (Below.heap_alloc w6 _ ab hab6)).trans ((row_cell HBL6.out 6).trans (show _ = some (.slice a3 k c3) from rfl)))
      have HB8 := hide ((HB6.out.alloc HB6.out.size _).trans (hb8.mono (by have := HB6.out.size; simp; omega)))
      have q3 : ((k : Int) == (k : Int)) = true := by simp
      obtain ⟨A2, hA2'⟩ : ∃ A2, w6.heap.size = A2 := ⟨_, rfl⟩
      rw [hA2'] at y8 ⊢
      clear hb8 HB6 HW6 HBL6 HK6 hab6 hA2'
      go_wp2_with fail
      go_quiet (fail)
      go_wp2_with fail
      go_ret
      exact ⟨rfl, below_drewN HB8.out _⟩
end Go.Proofs.YtgdmgmklncmanaaGreatDoor
/- The law over every text. -/
namespace Go.Proofs.YtgdmgmklncmanaaGreatDoor
open Go.RowKit
open Arc (St RSt RCmd S)

theorem inspects_any (x : S) (mx : Int) (w : World) (hw9 : 9 ≤ w.heap.size) (hm : w.cell? ⟨0, 0, none⟩ = some (.int .i64 mx)) (hK : ∀ i : Nat, i < 64 → w.cell? ⟨3, i, none⟩ = some (.int .u32 (kTab i))) :
    Calls Tryz.prog 4 #[.string ⟨x.toArray⟩] w fun e w' => e = .returned (.bool true) ∧ Below w.heap.size w w' := by
  cases hp : Arc.parse (short kTab) x with
  | none => exact inspects_none x hp mx w hw9 hm hK
  | some q =>
    obtain ⟨nm, ve, st⟩ := q
    have hr := Arc.parse_rread (short kTab) x
    rw [hp] at hr
    obtain ⟨rst, hr, e1, e2, e3, e4, e5, e6, e7⟩ := hr
    obtain ⟨-, -, ⟨l0, l1, l2, l3, l4, l5, -⟩, -⟩ := parse_fits hp
    have r6 : rst.runs.length = st.runs.length := by rw [e6, List.length_map]
    have r7 : rst.wokens.length = st.wokens.length := by rw [e7, List.length_map]
    refine inspects_walk x nm ve st.needs.length st.breaks.length st.wakes.length st.files.length st.runs.length st.wokens.length st.files rfl (by omega) ⟨by omega, by omega, by omega, by omega, by omega⟩ w (hide (packed_any mx w hw9 hm hK)) (hide fun w1 hb => ?_) (hide fun w1 => ?_)
    · have := inspect_any x kTab mx w1 (Nat.le_trans hw9 hb.size) ((hb.cell (p := ⟨0, 0, none⟩) (World.block_lt_of_cell? w _ hm)).trans hm) (fun i hi => (hb.cell (p := ⟨3, i, none⟩) (World.block_lt_of_cell? w _ (hK i hi))).trans (hK i hi))
      rw [hp] at this
      exact this
    · refine (readd_any x w1).mono ?_
      intro e w' h
      rw [hr] at h
      have := rd_some h
      rw [e1, e2, e3, e4, e5, r6, r7] at this
      exact this
end Go.Proofs.YtgdmgmklncmanaaGreatDoor
