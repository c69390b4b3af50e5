/- The walks over a line: a file's; a command's that adds a word. -/
import Derived.Test.YtgdmgmklncmanaaGreatDoorParW2
namespace Go.Proofs.YtgdmgmklncmanaaGreatDoor
open Go.RowKit
open Arc (St Cmd S)

set_option maxRecDepth 100000 in
set_option maxHeartbeats 1000000 in
theorem line_file (pb q o c : Nat) (nm ve : S) (st : St) (sl : Fin 6 → Value) (path z hsh : S) (n : Nat) (mx : Int) (K : Nat → Int) (w : World) (h : PIn pb nm ve st sl w) (hp0 : 9 ≤ pb) (hf : st.files = [])
    (hpl : path.length ≤ 2000) (hleft : st.left.length ≤ 2000)
    (h1 : 1 ≤ z.length) (h4 : z.length ≤ 4) (hd : Wd.headIs (fun c => (c.toNat : Int) == 48) z = false) (ht : Lib.trimS z tenD = []) (ha : Lib.atoi z = some (n : Int))
    (hn : n ≤ st.left.length) (hpath : Wd.isPath path = true) (hund : Wd.under path = false) (hsum : short K (st.left.take n) = hsh)
    (hm : w.cell? ⟨0, 0, none⟩ = some (.int .i64 mx)) (hK : ∀ i : Nat, i < 64 → w.cell? ⟨3, i, none⟩ = some (.int .u32 (K i)))
    (c0 : w.cell? ⟨q, o, none⟩ = some (.string ⟨path.toArray⟩)) (c1 : w.cell? ⟨q, o + 1, none⟩ = some (.string ⟨z.toArray⟩)) (c2 : w.cell? ⟨q, o + 2, none⟩ = some (.string ⟨hsh.toArray⟩)) :
    Calls Tryz.prog 71 #[.pointer (some ⟨pb, 0, none⟩), .int .i64 4, .slice (some ⟨q, o, none⟩) 3 c] w fun e w' => e = .returned (.bool true) ∧
      ∃ sl', PIn pb nm ve { st with files := st.files ++ [(path, st.left.take n)], left := st.left.drop n } sl' w' ∧ Below pb w w' := by
  have H := hide (file_ok pb q o c nm ve st sl path z hsh n mx K w h hp0 hf hpl hleft h1 h4 hd ht ha hn hpath hund hsum hm hK c0 c1 c2)
  clear h hm hK c0 c1 c2 hsum ha ht
  go_enter Tryz.func71, Tryz.ntmps71
  go_wp2_with (go_at_call 94; refine H.out.mono ?_; rintro e w1 ⟨rfl, hr⟩)
  go_ret
  exact ⟨rfl, hr⟩

theorem info_cmd : (Tryz.prog.info? 143).map (fun i => (i.zero, i.size, i.bytes)) = some (some (.agg #[.int .i64 0, .string ByteArray.empty, .string ByteArray.empty, .string ByteArray.empty]), 4, 56) := by kernel_rfl
theorem cell_four_new (w : World) (a b c d : Value) (t : TypeId) : ∀ j u, [a, b, c, d][j]? = some u → (w.alloc (.cells #[a, b, c, d] t)).cell? ((⟨w.heap.size, 0, none⟩ : Addr).add j) = some u := by
  intro j u h
  have hadd : (⟨w.heap.size, 0, none⟩ : Addr).add j = ⟨w.heap.size, j, none⟩ := by unfold Addr.add; split <;> simp_all
  rw [hadd, row_cell (heap_alloc_new w _)]
  simpa using h

set_option maxRecDepth 100000 in
set_option maxHeartbeats 1000000 in
theorem line_run (pb g o c : Nat) (nm ve : S) (st : St) (sl : Fin 6 → Value) (p q : S) (mx : Int) (w : World) (h : PIn pb nm ve st sl w) (hrl : st.runs.length ≤ 30)
    (hq : q.length ≤ 2000) (hp : p.length ≤ 2000) (h1 : Wd.isWord q = true) (h2 : Wd.isVar p = true) (hm : w.cell? ⟨0, 0, none⟩ = some (.int .i64 mx))
    (hg : g < w.heap.size) (c0 : w.cell? ⟨g, o, none⟩ = some (.string ⟨#[97, 100, 100]⟩)) (c1 : w.cell? ⟨g, o + 1, none⟩ = some (.string ⟨p.toArray⟩)) (c2 : w.cell? ⟨g, o + 2, none⟩ = some (.string ⟨q.toArray⟩)) :
    Calls Tryz.prog 71 #[.pointer (some ⟨pb, 0, none⟩), .int .i64 5, .slice (some ⟨g, o, none⟩) 3 c] w fun e w' => e = .returned (.bool true) ∧
      ∃ sl', PIn pb nm ve { st with runs := st.runs ++ [⟨2, p, q, []⟩] } sl' w' ∧ Below pb w w' := by
  obtain ⟨i0, hi, hz0, hz1, hz2⟩ := info_three info_cmd
  have hlt := h.lt
  have HC := hide (command_add g o c p q hq hp h1 h2 mx w (by omega) hm hg c0 c1 c2)
  have H := hide h; clear h hm c0 c1 c2
  go_enter Tryz.func71, Tryz.ntmps71
  go_wp2_with (go_at_call 95; refine HC.out.mono ?_; rintro e w1 ⟨rfl, hb1⟩)
  have P4 := (H.out.below hb1).alloc (.cells #[.int .i64 2, .string ⟨p.toArray⟩, .string ⟨q.toArray⟩, .string ⟨#[]⟩] 143)
  have hfb := heap_alloc_new w1 (.cells #[.int .i64 2, .string ⟨p.toArray⟩, .string ⟨q.toArray⟩, .string ⟨#[]⟩] 143)
  have B4 : Below pb w (w1.alloc (.cells #[.int .i64 2, .string ⟨p.toArray⟩, .string ⟨q.toArray⟩, .string ⟨#[]⟩] 143)) := (hb1.mono (Nat.le_of_lt hlt)).alloc (by have := hb1.size; omega) _
  have hus : (w1.alloc (.cells #[.int .i64 2, .string ⟨p.toArray⟩, .string ⟨q.toArray⟩, .string ⟨#[]⟩] 143)).heap.size = w1.heap.size + 1 := by simp
  have hne : some w1.heap.size ≠ (sl 4).ownBlock := fun e => by have := (((H.out.below hb1).own 4).lt _ e.symm).2; omega
  have hl3 : pb < w1.heap.size := (H.out.below hb1).lt
  obtain ⟨fb, hfbe⟩ : ∃ fb, w1.heap.size = fb := ⟨_, rfl⟩
  generalize hu : w1.alloc (.cells #[.int .i64 2, .string ⟨p.toArray⟩, .string ⟨q.toArray⟩, .string ⟨#[]⟩] 143) = u at *
  rw [hfbe] at hfb hus hne hl3 ⊢
  clear hu hfbe hb1
  have k5 := (row_cell P4.blk 6).trans (show _ = some (sl 4) from rfl)
  have f5 := row_free P4.blk 6
  obtain ⟨l0, l1, l2, l3, -⟩ := four_free hfb
  obtain ⟨m, xs, hmx⟩ : ∃ m xs, prow st 4 = (m, xs) := ⟨_, _, rfl⟩
  have hm1 : m ≤ 30 := by have := congrArg Prod.fst hmx; simp only [prow] at this; omega
  have own3 := P4.own 4
  rw [hmx] at own3
  have own3' : (u.drew).ownsRow (pb + 1) 143 4 (sl 4) m xs := own3
  have HP4 := hide P4; have HFB := hide hfb; have HB4 := hide B4; have HMX := hide hmx
  have hne2 : ¬ fb = pb := by omega
  have hne3 : ¬ pb = fb := by omega
  clear P4 hfb B4 hmx own3
  go_region_law (refine step_append_own rfl _ _ 64 rfl (pb + 1) 143 i0 _ 4 56 Tryz.underlying64 hi hz0 hz1 hz2 rfl (by decide) (sl 4) m xs rfl (own3'.alloc _) ⟨u.heap.size, 0, none⟩ 1 1 [_, _, _, _] (by simp [Act.eval]) rfl (cell_four_new _ _ _ _ _ _) (fun x hx => by simp at hx; rcases hx with rfl | rfl | rfl | rfl <;> rfl) (by unfold maxLen; omega) (by omega) (by simp; omega) ?_; intro v' w4 hown' hgrow4 hnil4 hblk4; obtain ⟨gv, cv, rfl⟩ := own_form hown' (by omega); have hk4 := PIn.kept (HP4.out.drew.alloc _) 4 hgrow4; have q5 := (row_cell hk4 6).trans (show _ = some (sl 4) from rfl); have g5 := row_free hk4 6; have hf4 := (hgrow4.block fb (by simp; omega) hne).trans ((Below.heap_alloc _ _ _ (by show fb < u.heap.size; omega)).trans HFB.out); have r1 := (row_cell hf4 0).trans (show _ = some (.int .i64 2) from rfl))
  all_goals
    have hprow : prow { st with runs := st.runs ++ [⟨2, p, q, []⟩] } 4 = (m + 1, xs ++ [.int .i64 2, .string ⟨p.toArray⟩, .string ⟨q.toArray⟩, .string ⟨#[]⟩]) := by
      have := HMX.out
      simp only [prow, Prod.mk.injEq] at this ⊢
      rw [← this.1, ← this.2]; simp [cmdV, strV]
    have hown2 : w4.ownsRow (pb + 1) (pty 4) (psz 4) (.slice (some ⟨gv, 0, none⟩) (m + 1) cv) (prow { st with runs := st.runs ++ [⟨2, p, q, []⟩] } 4).1 (prow { st with runs := st.runs ++ [⟨2, p, q, []⟩] } 4).2 := by rw [hprow]; exact hown'
    have HP5 := hide (PIn.put (HP4.out.drew.alloc _) 4 hgrow4 hown2 hblk4 (fun j hj => by
      match j, hj with
      | 0, _ => rfl
      | 1, _ => rfl
      | 2, _ => rfl
      | 3, _ => rfl
      | 4, h => exact absurd rfl h
      | 5, _ => rfl) rfl)
    have HB5 : Hid (Below pb w (w4.setCell ⟨pb, 6, none⟩ (.slice (some ⟨gv, 0, none⟩) (m + 1) cv))) := hide (((show Below pb w w4 from ((HB4.out.drew.alloc (by show pb ≤ u.heap.size; omega) _).grown hgrow4 (by simp; omega) (fun k hk => by have := ((HP4.out.own 4).lt k hk).1; omega)))).setCell (p := ⟨pb, 6, none⟩) (Nat.le_refl pb) _)
    clear hown2 hprow hown' hgrow4 hnil4 hblk4 hk4 hf4
    go_wp2_with fail
    go_ret
    exact ⟨rfl, _, HP5.out, HB5.out⟩
end Go.Proofs.YtgdmgmklncmanaaGreatDoor
