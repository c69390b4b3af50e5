/- Of Ins: ParW3, ParW4, ParW5. -/
import Derived.Test.YtgdmgmklncmanaaGreatDoorIns11
/- The walks over a line: a file's; a command's that adds a word. -/
namespace Go.Proofs.YtgdmgmklncmanaaGreatDoor
open Go.RowKit
open Arc (St Cmd S)

set_option maxRecDepth 100000 in
set_option maxHeartbeats 1000000 in
theorem line_file (pb q o c : Nat) (nm ve : S) (st : St) (sl : Fin 6 → Value) (path z hsh : S) (n : Nat) (mx : Int) (K : Nat → Int) (w : World) (h : PIn pb nm ve st sl w) (hp0 : 9 ≤ pb) (hf : st.files = [])
    (hpl : path.length ≤ 2000) (hleft : st.left.length ≤ 2000)
    (h1 : 1 ≤ z.length) (h4 : z.length ≤ 4) (hd : Wd.headIs (fun c => (c.toNat : Int) == 48) z = false) (ht : Lib.trimS z tenD = []) (ha : Lib.atoi z = some (n : Int))
    (hn : n ≤ st.left.length) (hpath : Wd.isPath path = true) (hund : Wd.under path = false) (hsum : short K (st.left.take n) = hsh)
    (hm : w.cell? ⟨0, 0, none⟩ = some (.int .i64 mx)) (hK : ∀ i : Nat, i < 64 → w.cell? ⟨3, i, none⟩ = some (.int .u32 (K i)))
    (c0 : w.cell? ⟨q, o, none⟩ = some (.string ⟨path.toArray⟩)) (c1 : w.cell? ⟨q, o + 1, none⟩ = some (.string ⟨z.toArray⟩)) (c2 : w.cell? ⟨q, o + 2, none⟩ = some (.string ⟨hsh.toArray⟩)) :
    Calls Tryz.prog 71 #[.pointer (some ⟨pb, 0, none⟩), .int .i64 4, .slice (some ⟨q, o, none⟩) 3 c] w fun e w' => e = .returned (.bool true) ∧
      ∃ sl', PIn pb nm ve { st with files := st.files ++ [(path, st.left.take n)], left := st.left.drop n } sl' w' ∧ Below pb w w' := by
  have H := hide (file_ok pb q o c nm ve st sl path z hsh n mx K w h hp0 hf hpl hleft h1 h4 hd ht ha hn hpath hund hsum hm hK c0 c1 c2)
  clear h hm hK c0 c1 c2 hsum ha ht
  go_enter Tryz.func71, Tryz.ntmps71
  go_wp2_with (go_at_call 94; refine H.out.mono ?_; rintro e w1 ⟨rfl, hr⟩)
  go_ret
  exact ⟨rfl, hr⟩

theorem info_cmd : (Tryz.prog.info? 143).map (fun i => (i.zero, i.size, i.bytes)) = some (some (.agg #[.int .i64 0, .string ByteArray.empty, .string ByteArray.empty, .string ByteArray.empty]), 4, 56) := by kernel_rfl
theorem cell_four_new (w : World) (a b c d : Value) (t : TypeId) : ∀ j u, [a, b, c, d][j]? = some u → (w.alloc (.cells #[a, b, c, d] t)).cell? ((⟨w.heap.size, 0, none⟩ : Addr).add j) = some u := by
  intro j u h
  have hadd : (⟨w.heap.size, 0, none⟩ : Addr).add j = ⟨w.heap.size, j, none⟩ := by unfold Addr.add; split <;> simp_all
  rw [hadd, row_cell (heap_alloc_new w _)]
  simpa using h

set_option maxRecDepth 100000 in
set_option maxHeartbeats 1000000 in
theorem line_run (pb g o c : Nat) (nm ve : S) (st : St) (sl : Fin 6 → Value) (p q : S) (mx : Int) (w : World) (h : PIn pb nm ve st sl w) (hrl : st.runs.length ≤ 30)
    (hq : q.length ≤ 2000) (hp : p.length ≤ 2000) (h1 : Wd.isWord q = true) (h2 : Wd.isVar p = true) (hm : w.cell? ⟨0, 0, none⟩ = some (.int .i64 mx))
    (hg : g < w.heap.size) (c0 : w.cell? ⟨g, o, none⟩ = some (.string ⟨#[97, 100, 100]⟩)) (c1 : w.cell? ⟨g, o + 1, none⟩ = some (.string ⟨p.toArray⟩)) (c2 : w.cell? ⟨g, o + 2, none⟩ = some (.string ⟨q.toArray⟩)) :
    Calls Tryz.prog 71 #[.pointer (some ⟨pb, 0, none⟩), .int .i64 5, .slice (some ⟨g, o, none⟩) 3 c] w fun e w' => e = .returned (.bool true) ∧
      ∃ sl', PIn pb nm ve { st with runs := st.runs ++ [⟨2, p, q, []⟩] } sl' w' ∧ Below pb w w' := by
  obtain ⟨i0, hi, hz0, hz1, hz2⟩ := info_three info_cmd
  have hlt := h.lt
  have HC := hide (command_add g o c p q hq hp h1 h2 mx w (World.block_lt_of_cell? w _ hm) hm hg c0 c1 c2)
  have H := hide h; clear h hm c0 c1 c2
  go_enter Tryz.func71, Tryz.ntmps71
  go_wp2_with (go_at_call 95; refine HC.out.mono ?_; rintro e w1 ⟨rfl, hb1⟩)
  have P4 := (H.out.below hb1).alloc (.cells #[.int .i64 2, .string ⟨p.toArray⟩, .string ⟨q.toArray⟩, .string ⟨#[]⟩] 143)
  have hfb := heap_alloc_new w1 (.cells #[.int .i64 2, .string ⟨p.toArray⟩, .string ⟨q.toArray⟩, .string ⟨#[]⟩] 143)
  have B4 : Below pb w (w1.alloc (.cells #[.int .i64 2, .string ⟨p.toArray⟩, .string ⟨q.toArray⟩, .string ⟨#[]⟩] 143)) := (hb1.mono (Nat.le_of_lt hlt)).alloc (by have := hb1.size; omega) _
  have hus : (w1.alloc (.cells #[.int .i64 2, .string ⟨p.toArray⟩, .string ⟨q.toArray⟩, .string ⟨#[]⟩] 143)).heap.size = w1.heap.size + 1 := by simp
  have hne : some w1.heap.size ≠ (sl 4).ownBlock := fun e => by have := (((H.out.below hb1).own 4).lt _ e.symm).2; omega
  have hl3 : pb < w1.heap.size := (H.out.below hb1).lt
  obtain ⟨fb, hfbe⟩ : ∃ fb, w1.heap.size = fb := ⟨_, rfl⟩
  generalize hu : w1.alloc (.cells #[.int .i64 2, .string ⟨p.toArray⟩, .string ⟨q.toArray⟩, .string ⟨#[]⟩] 143) = u at *
  rw [hfbe] at hfb hus hne hl3 ⊢
  clear hu hfbe hb1
  have k5 := (row_cell P4.blk 6).trans (show _ = some (sl 4) from rfl)
  have f5 := row_free P4.blk 6
  obtain ⟨l0, l1, l2, l3, -⟩ := four_free hfb
  obtain ⟨m, xs, hmx⟩ : ∃ m xs, prow st 4 = (m, xs) := ⟨_, _, rfl⟩
  have hm1 : m ≤ 30 := by have := congrArg Prod.fst hmx; simp only [prow] at this; omega
  have own3 := P4.own 4
  rw [hmx] at own3
  have own3' : (u.drew).ownsRow (pb + 1) 143 4 (sl 4) m xs := own3
  have HP4 := hide P4; have HFB := hide hfb; have HB4 := hide B4; have HMX := hide hmx
  have hne2 : ¬ fb = pb := by omega
  have hne3 : ¬ pb = fb := by omega
  clear P4 hfb B4 hmx own3
  go_region_law (refine step_append_own rfl _ _ 64 rfl (pb + 1) 143 i0 _ 4 56 Tryz.underlying64 hi hz0 hz1 hz2 rfl (by decide) (sl 4) m xs rfl (own3'.alloc _) ⟨u.heap.size, 0, none⟩ 1 1 [_, _, _, _] (by simp [Act.eval]) rfl (cell_four_new _ _ _ _ _ _) (fun x hx => by simp at hx; rcases hx with rfl | rfl | rfl | rfl <;> rfl) (by unfold maxLen; omega) (by omega) (by simp; omega) ?_; intro v' w4 hown' hgrow4 hnil4 hblk4; obtain ⟨gv, cv, rfl⟩ := own_form hown' (by omega); have hk4 := PIn.kept (HP4.out.drew.alloc _) 4 hgrow4; have q5 := (row_cell hk4 6).trans (show _ = some (sl 4) from rfl); have g5 := row_free hk4 6; have hf4 := (hgrow4.block fb (by simp; omega) hne).trans ((Below.heap_alloc _ _ _ (by show fb < u.heap.size; omega)).trans HFB.out); have r1 := (row_cell hf4 0).trans (show _ = some (.int .i64 2) from rfl))
  all_goals
    have hprow : prow { st with runs := st.runs ++ [⟨2, p, q, []⟩] } 4 = (m + 1, xs ++ [.int .i64 2, .string ⟨p.toArray⟩, .string ⟨q.toArray⟩, .string ⟨#[]⟩]) := by
      have := HMX.out
      simp only [prow, Prod.mk.injEq] at this ⊢
      rw [← this.1, ← this.2]; simp [cmdV, strV]
    have hown2 : w4.ownsRow (pb + 1) (pty 4) (psz 4) (.slice (some ⟨gv, 0, none⟩) (m + 1) cv) (prow { st with runs := st.runs ++ [⟨2, p, q, []⟩] } 4).1 (prow { st with runs := st.runs ++ [⟨2, p, q, []⟩] } 4).2 := by rw [hprow]; exact hown'
    have HP5 := hide (PIn.put (HP4.out.drew.alloc _) 4 hgrow4 hown2 hblk4 (fun j hj => by
      match j, hj with
      | 0, _ => rfl
      | 1, _ => rfl
      | 2, _ => rfl
      | 3, _ => rfl
      | 4, h => exact absurd rfl h
      | 5, _ => rfl) rfl)
    have HB5 : Hid (Below pb w (w4.setCell ⟨pb, 6, none⟩ (.slice (some ⟨gv, 0, none⟩) (m + 1) cv))) := hide (((show Below pb w w4 from ((HB4.out.drew.alloc (by show pb ≤ u.heap.size; omega) _).grown hgrow4 (by simp; omega) (fun k hk => by have := ((HP4.out.own 4).lt k hk).1; omega)))).setCell (p := ⟨pb, 6, none⟩) (Nat.le_refl pb) _)
    clear hown2 hprow hown' hgrow4 hnil4 hblk4 hk4 hf4
    go_wp2_with fail
    go_ret
    exact ⟨rfl, _, HP5.out, HB5.out⟩
end Go.Proofs.YtgdmgmklncmanaaGreatDoor
/- The walk over the lines behind the first three. -/
namespace Go.Proofs.YtgdmgmklncmanaaGreatDoor
open Go.RowKit
open Arc (St Cmd S)

theorem split_any (d : UInt8) (x : S) (hx : x.length ≤ 2000) (mx : Int) (w : World) (hm : w.cell? ⟨0, 0, none⟩ = some (.int .i64 mx)) :
    Calls Tryz.prog 41 #[.string ⟨x.toArray⟩, .string ⟨#[d]⟩] w fun e w' => e = .returned (.slice (some ⟨w.heap.size, 0, none⟩) (sp d x).length (sp d x).length) ∧ w' = w.alloc (.cells ((sp d x).map strV).toArray 9) := by
  refine (Tryz.strings_Split ⟨x.toArray⟩ ⟨#[d]⟩ mx w (by simp [ByteArray.size]; omega) hm (Nat.le_refl 1)).mono ?_
  rintro e w' ⟨he, hw⟩
  rw [countB_sp] at he
  refine ⟨he, ?_⟩
  rw [hw, splitB_sp, List.map_map]
  rfl

/-- The kind of the line x. -/
def kof (x : S) : Int := kd ((sp 32 x).getD 0 [])
/-- The kind of the line ahead of the k-th. -/
def lastK (L : List S) : Nat → Int
  | 0 => 0
  | k + 1 => kof (L.getD k [])
def LineOk (pb : Nat) (nm ve : S) (st : Nat → St) (x : S) (k : Nat) (w : World) : Prop :=
  ∀ (sl : Fin 6 → Value) (w1 : World), PIn pb nm ve (st k) sl w1 → Below pb w w1 → ∀ q, q < w1.heap.size → (∀ j, j < (sp 32 x).length → w1.cell? ⟨q, j, none⟩ = some (strV ((sp 32 x).getD j []))) →
    Calls Tryz.prog 71 #[.pointer (some ⟨pb, 0, none⟩), .int .i64 (kof x), .slice (some ⟨q, 1, none⟩) ((sp 32 x).length - 1) ((sp 32 x).length - 1)] w1
      fun e w2 => e = .returned (.bool true) ∧ ∃ sl', PIn pb nm ve (st (k + 1)) sl' w2 ∧ Below pb w1 w2

theorem line_at {pb : Nat} {nm ve : S} {st : Nat → St} {x : S} {k n : Nat} {z : Int} {w w1 : World} {sl : Fin 6 → Value} {q : Nat} (h : Hid (LineOk pb nm ve st x k w)) (hz : Hid (kof x = z)) (hn : Hid ((sp 32 x).length = n)) (hp : PIn pb nm ve (st k) sl w1) (hb : Below pb w w1)
    (hq : q < w1.heap.size) (hc : ∀ j, j < (sp 32 x).length → w1.cell? ⟨q, j, none⟩ = some (strV ((sp 32 x).getD j []))) :
    Calls Tryz.prog 71 #[.pointer (some ⟨pb, 0, none⟩), .int .i64 z, .slice (some ⟨q, 1, none⟩) (n - 1) (n - 1)] w1
      fun e w2 => e = .returned (.bool true) ∧ ∃ sl', PIn pb nm ve (st (k + 1)) sl' w2 ∧ Below pb w1 w2 := by
  have := h.out sl w1 hp hb q hq hc
  rwa [hz.out, hn.out] at this
theorem parts_cells {d : UInt8} {x : S} {wr w1 : World} (hw : w1 = wr.alloc (.cells ((sp d x).map strV).toArray 9)) : ∀ j, j < (sp d x).length → w1.cell? ⟨wr.heap.size, j, none⟩ = some (strV ((sp d x).getD j [])) := by
  intro j hj
  subst hw
  rw [row_cell (heap_alloc_new wr _)]
  simp [List.getD, List.getElem?_eq_getElem hj]
theorem split_below {wr w1 : World} {o : Obj} (hw : w1 = wr.alloc o) : Below wr.heap.size wr w1 ∧ w1.heap.size = wr.heap.size + 1 := by
  subst hw
  exact ⟨(Below.refl _ wr).alloc (Nat.le_refl _) _, by simp⟩

set_option maxRecDepth 100000 in
set_option maxHeartbeats 1000000 in
theorem body_ok (pb lg lo lc : Nat) (nm ve : S) (st : Nat → St) (L : List S) (mx : Int) (sl : Fin 6 → Value) (w : World) (h : PIn pb nm ve (st 0) sl w) (hp0 : 9 ≤ pb) (hlg : lg < pb) (hL : L.length ≤ 21) (hll : ∀ x ∈ L, x.length ≤ 2000)
    (hm : w.cell? ⟨0, 0, none⟩ = some (.int .i64 mx)) (hc : ∀ k, k < L.length → w.cell? ⟨lg, lo + k, none⟩ = some (strV (L.getD k [])))
    (hkind : ∀ k, k < L.length → kof (L.getD k []) ≠ 0 ∧ lastK L k ≤ kof (L.getD k [])) (hlen : ∀ k, k < L.length → 2 ≤ (sp 32 (L.getD k [])).length)
    (hline : ∀ k, k < L.length → LineOk pb nm ve st (L.getD k []) k w) :
    Calls Tryz.prog 43 #[.pointer (some ⟨pb, 0, none⟩), .slice (some ⟨lg, lo, none⟩) L.length lc] w fun e w' => e = .returned (.bool true) ∧ ∃ sl', PIn pb nm ve (st L.length) sl' w' ∧ Below pb w w' := by
  have H := hide h; have HM := hide hm; have HC := hide hc; have HK := hide hkind; have HLN := hide hlen; have HLINE := hide hline
  have hlt := h.lt
  clear h hm hc hkind hlen hline
  go_enter Tryz.func43, Tryz.ntmps43
  go_wp2_with fail
  go_loopw [5, 12] (fun l i wr => ∃ (k : Nat) (sl : Fin 6 → Value), k ≤ L.length ∧ i = .int .i64 k ∧ l = .int .i64 (lastK L k) ∧ Hid (PIn pb nm ve (st k) sl wr) ∧ Hid (Below pb w wr))
    (fun _ i _ => L.length - (intOf i).toNat)
  case atStart => exact ⟨0, sl, Nat.zero_le _, rfl, rfl, H, hide (Below.refl _ _)⟩
  case round =>
    clear H
    obtain ⟨k, sl, hk, rfl, rfl, HP, HB⟩ := hrel
    by_cases hlt2 : k < L.length
    · have b1 : (k : Int) < (L.length : Int) := by omega
      have hcell := (HB.out.cell (p := ⟨lg, lo + k, none⟩) hlg).trans (HC.out k hlt2)
      obtain ⟨x, hx⟩ : ∃ x, L.getD k [] = x := ⟨_, rfl⟩
      have hxl : x.length ≤ 2000 := by
        rw [← hx, List.getD, List.getElem?_eq_getElem hlt2]; exact hll _ (List.getElem_mem hlt2)
      have hk1 := HK.out k hlt2
      have hln := HLN.out k hlt2
      have hli := HLINE.out k hlt2
      rw [hx] at hcell hk1 hln hli
      have hcell' : wr.cell? ⟨lg, lo + k, none⟩ = some (.string ⟨x.toArray⟩) := hcell
      obtain ⟨z, hz⟩ : ∃ z, kof x = z := ⟨_, rfl⟩
      rw [hz] at hk1
      have hlast : lastK L (k + 1) = z := by rw [lastK, hx, hz]
      obtain ⟨l0, hl0⟩ : ∃ l0, lastK L k = l0 := ⟨_, rfl⟩
      rw [hl0] at hk1 ⊢
      have z0 : (z == 0) = false := by simp [hk1.1]
      have z1 : ¬ z < l0 := by omega
      obtain ⟨n, hn⟩ : ∃ n, (sp 32 x).length = n := ⟨_, rfl⟩
      rw [hn] at hln
      have HX := hide hx; have HZ := hide hz; have HLI := hide hli; have HN := hide hn; have HLAST := hide hlast
      have hbs := HB.out.size
      have hm2 : wr.cell? ⟨0, 0, none⟩ = some (.int .i64 mx) := (HB.out.cell (p := ⟨0, 0, none⟩) (by show 0 < pb; omega)).trans HM.out
      have HM2 := hide hm2
      clear hx hz hli hn hlast hcell hk1 hm2 hl0
      obtain ⟨x0, hx0⟩ : ∃ x0, (sp 32 x).getD 0 [] = x0 := ⟨_, rfl⟩
      have HX0 := hide hx0
      have HZ0 : Hid (kd x0 = z) := hide (by rw [← hx0]; exact HZ.out)
      clear hx0
      have hn1 : ¬ n = 1 := by omega
      go_wp2_with (first
        | (go_at_call 41; refine (split_any 32 x hxl mx _ HM2.out).mono ?_; rintro e w1 ⟨he, hw1⟩; rw [HN.out] at he; subst he; have HQ := hide (parts_cells hw1); have q0 : w1.cell? ⟨wr.heap.size, 0, none⟩ = some (.string ⟨x0.toArray⟩) := (HQ.out 0 (by rw [HN.out]; omega)).trans (by rw [HX0.out]; rfl); have HB1 := hide (split_below hw1); clear hw1)
        | (go_at_call 70; refine (kindOf_any x0 _).mono ?_; rintro e w2 ⟨he, rfl⟩; rw [HZ0.out] at he; subst he)
        | (go_at_call 71; refine (line_at HLI HZ HN (HP.out.below HB1.out.1) (HB.out.trans (HB1.out.1.mono (Nat.le_of_lt HP.out.lt))) (by have := HB1.out.2; omega) HQ.out).mono ?_; rintro e w3 ⟨rfl, sl3, hp3, hb3⟩))
      go_roundw
      case rel =>
        exact ⟨k + 1, sl3, by omega, by go_num, by rw [HLAST.out], hide hp3, hide ((HB.out.trans (HB1.out.1.mono (Nat.le_of_lt HP.out.lt))).trans hb3)⟩
      case measure => simp [intOf]; omega
    · obtain rfl : k = L.length := by omega
      go_wp2_with fail
      go_ret
      exact ⟨rfl, sl, HP.out, HB.out⟩
end Go.Proofs.YtgdmgmklncmanaaGreatDoor
/- The walk over the first three lines. -/
namespace Go.Proofs.YtgdmgmklncmanaaGreatDoor
open Go.RowKit
open Arc (St Cmd S)

theorem cutPre_any (x p : S) (w : World) :
    Calls Tryz.prog 67 #[.string ⟨x.toArray⟩, .string ⟨p.toArray⟩] w fun e w' => e = .returned (.tuple #[.string ⟨(Lib.trimPrefix x p).toArray⟩, .bool (Lib.hasPrefix x p)]) ∧ w' = w :=
  Tryz.strings_CutPrefix ⟨x.toArray⟩ ⟨p.toArray⟩ w

set_option maxRecDepth 100000 in
set_option maxHeartbeats 300000 in
theorem head_ok (pb lg c : Nat) (st : St) (sl : Fin 6 → Value) (b d nm ve : S) (w : World) (h : PIn pb [] [] st sl w) (hlg : lg < w.heap.size) (hne : lg ≠ pb) (hnl : nm.length ≤ 2000)
    (c0 : w.cell? ⟨lg, 0, none⟩ = some (.string ⟨#[104, 97, 118, 101, 110, 32, 49]⟩)) (c1 : w.cell? ⟨lg, 1, none⟩ = some (.string ⟨b.toArray⟩)) (c2 : w.cell? ⟨lg, 2, none⟩ = some (.string ⟨d.toArray⟩))
    (hb1 : Lib.hasPrefix b [110, 97, 109, 101, 32] = true) (hb2 : Lib.trimPrefix b [110, 97, 109, 101, 32] = nm) (hd1 : Lib.hasPrefix d [118, 101, 114, 115, 105, 111, 110, 32] = true) (hd2 : Lib.trimPrefix d [118, 101, 114, 115, 105, 111, 110, 32] = ve)
    (hn : Wd.isName nm = true) (hv : Ver.fine ve = true) :
    Calls Tryz.prog 42 #[.pointer (some ⟨pb, 0, none⟩), .slice (some ⟨lg, 0, none⟩) 3 c] w fun e w' => e = .returned (.bool true) ∧ PIn pb nm ve st sl w' ∧ Below pb w w' := by
  have k0 := (row_cell h.blk 0).trans (show _ = some (.string ⟨#[]⟩) from rfl)
  have k1 := (row_cell h.blk 1).trans (show _ = some (.string ⟨#[]⟩) from rfl)
  have f0 := row_free h.blk 0
  have f1 := row_free h.blk 1
  have hlt := h.lt
  have hne2 : ¬ pb = lg := fun e => hne e.symm
  have H := hide (h.names nm ve)
  have HB : Hid (Below pb w ((w.setCell ⟨pb, 0, none⟩ (strV nm)).setCell ⟨pb, 1, none⟩ (strV ve))) := hide (((Below.refl pb w).setCell (p := ⟨pb, 0, none⟩) (Nat.le_refl pb) _).setCell (p := ⟨pb, 1, none⟩) (Nat.le_refl pb) _)
  clear h
  go_enter Tryz.func42, Tryz.ntmps42
  go_wp2_with fail
  refine (cutPre_any b [110, 97, 109, 101, 32] _).mono ?_
  rintro e w1 ⟨he, rfl⟩
  rw [hb1, hb2] at he
  subst he
  go_wp2_with fail
  refine (cutPre_any d [118, 101, 114, 115, 105, 111, 110, 32] _).mono ?_
  rintro e w1 ⟨he, rfl⟩
  rw [hd1, hd2] at he
  subst he
  clear hb1 hb2 hd1 hd2
  go_wp2_with (first
    | (go_at_call 68; refine (isName_any nm hnl _).mono ?_; rintro e w3 ⟨rfl, hbn⟩)
    | (go_at_call 69; refine (isVersion_any ve _).mono ?_; rintro e w4 ⟨rfl, hbv⟩))
  go_ret
  exact ⟨rfl, (H.out.below hbn).below hbv, HB.out.trans ((hbn.trans (hbv.mono hbn.size)).mono (Nat.le_of_lt H.out.lt))⟩

theorem cut_any (x u v : S) (hx : x.length ≤ 2000) (h : cutTwo x = some (u, v)) (mx : Int) (w : World) (hm : w.cell? ⟨0, 0, none⟩ = some (.int .i64 mx)) :
    Calls Tryz.prog 27 #[.string ⟨x.toArray⟩, .string ⟨#[10, 10]⟩] w fun e w' => e = .returned (.tuple #[.string ⟨u.toArray⟩, .string ⟨v.toArray⟩, .bool true]) ∧ Below w.heap.size w w' ∧ w'.heap.size = w.heap.size := by
  refine (Tryz.strings_Cut ⟨x.toArray⟩ ⟨#[10, 10]⟩ mx w (by simp [ByteArray.size]; omega) hm).mono ?_
  rintro e w' ⟨he, n, rfl⟩
  have hc := cutTwo_cut x
  rw [h] at hc
  refine ⟨?_, below_drewN (Below.refl _ _) n, rfl⟩
  rw [he]
  show Ending.returned (.tuple #[.string ⟨(Lib.cut x [10, 10]).1.toArray⟩, .string ⟨(Lib.cut x [10, 10]).2.1.toArray⟩, .bool (Lib.cut x [10, 10]).2.2]) = _
  rw [hc]

/-- The parser at its beginning. -/
theorem PIn.begin (w : World) (x : S) : PIn w.heap.size [] [] (.of x) (fun _ => .slice none 0 0) (w.alloc (.cells #[.string ⟨#[]⟩, .string ⟨#[]⟩, .slice none 0 0, .slice none 0 0, .slice none 0 0, .slice none 0 0, .slice none 0 0, .slice none 0 0, .string ⟨x.toArray⟩] 100)) := by
  refine ⟨heap_alloc_new w _, fun i => ?_, fun i j _ g hg => by cases hg⟩
  match i with
  | 0 => exact World.ownsRow_nil _ _ _ _
  | 1 => exact World.ownsRow_nil _ _ _ _
  | 2 => exact World.ownsRow_nil _ _ _ _
  | 3 => exact World.ownsRow_nil _ _ _ _
  | 4 => exact World.ownsRow_nil _ _ _ _
  | 5 => exact World.ownsRow_nil _ _ _ _
theorem nine_free {w : World} {b : Nat} {t : TypeId} {a0 a1 a2 a3 a4 a5 a6 a7 a8 : Value} (h : w.heap[b]? = some (.cells #[a0, a1, a2, a3, a4, a5, a6, a7, a8] t (0, 0))) :
    w.cell? ⟨b, 0, none⟩ = some a0 ∧ w.cell? ⟨b, 1, none⟩ = some a1 ∧ w.cell? ⟨b, 2, none⟩ = some a2 ∧ w.cell? ⟨b, 3, none⟩ = some a3 ∧ w.cell? ⟨b, 4, none⟩ = some a4 ∧ w.cell? ⟨b, 5, none⟩ = some a5 ∧ w.cell? ⟨b, 6, none⟩ = some a6 ∧ w.cell? ⟨b, 7, none⟩ = some a7 ∧ w.cell? ⟨b, 8, none⟩ = some a8 :=
  ⟨(row_cell h 0).trans rfl, (row_cell h 1).trans rfl, (row_cell h 2).trans rfl, (row_cell h 3).trans rfl, (row_cell h 4).trans rfl, (row_cell h 5).trans rfl, (row_cell h 6).trans rfl, (row_cell h 7).trans rfl, (row_cell h 8).trans rfl⟩
theorem eight_any {w : World} {b : Nat} {t : TypeId} {a0 a1 a2 a3 a4 a5 a6 a7 : Value} (h : w.heap[b]? = some (.cells #[a0, a1, a2, a3, a4, a5, a6, a7] t (0, 0))) :
    w.cell? ⟨b, 0, none⟩ = some a0 ∧ w.cell? ⟨b, 1, none⟩ = some a1 ∧ w.cell? ⟨b, 2, none⟩ = some a2 ∧ w.cell? ⟨b, 3, none⟩ = some a3 ∧ w.cell? ⟨b, 4, none⟩ = some a4 ∧ w.cell? ⟨b, 5, none⟩ = some a5 ∧ w.cell? ⟨b, 6, none⟩ = some a6 ∧ w.cell? ⟨b, 7, none⟩ = some a7
    ∧ w.frozen? ⟨b, 0, none⟩ = false ∧ w.frozen? ⟨b, 1, none⟩ = false ∧ w.frozen? ⟨b, 2, none⟩ = false ∧ w.frozen? ⟨b, 3, none⟩ = false ∧ w.frozen? ⟨b, 4, none⟩ = false ∧ w.frozen? ⟨b, 5, none⟩ = false ∧ w.frozen? ⟨b, 6, none⟩ = false ∧ w.frozen? ⟨b, 7, none⟩ = false :=
  ⟨(row_cell h 0).trans rfl, (row_cell h 1).trans rfl, (row_cell h 2).trans rfl, (row_cell h 3).trans rfl, (row_cell h 4).trans rfl, (row_cell h 5).trans rfl, (row_cell h 6).trans rfl, (row_cell h 7).trans rfl, row_free h 0, row_free h 1, row_free h 2, row_free h 3, row_free h 4, row_free h 5, row_free h 6, row_free h 7⟩
/-- Eight cells set one behind the other, of whatever values. -/
theorem eight_put {w0 wr : World} {b : Nat} {t : TypeId} {a0 a1 a2 a3 a4 a5 a6 a7 : Value} (n0 n1 n2 n3 n4 n5 n6 n7 : Value) (h : wr.heap[b]? = some (.cells #[a0, a1, a2, a3, a4, a5, a6, a7] t (0, 0))) (hb : Below w0.heap.size w0 wr) (hlt : w0.heap.size ≤ b) :
    RowIs w0 wr b t #[n0, n1, n2, n3, n4, n5, n6, n7] ((((((((wr.setCell ⟨b, 0, none⟩ n0).setCell ⟨b, 1, none⟩ n1).setCell ⟨b, 2, none⟩ n2).setCell ⟨b, 3, none⟩ n3).setCell ⟨b, 4, none⟩ n4).setCell ⟨b, 5, none⟩ n5).setCell ⟨b, 6, none⟩ n6).setCell ⟨b, 7, none⟩ n7) := by
  have g : RowIs w0 wr b t _ wr := ⟨h, hb, fun _ _ => rfl, rfl⟩
  have g8 := (((((((g.set hlt 0 n0).set hlt 1 n1).set hlt 2 n2).set hlt 3 n3).set hlt 4 n4).set hlt 5 n5).set hlt 6 n6).set hlt 7 n7
  have e : ((((((((#[a0, a1, a2, a3, a4, a5, a6, a7] : Array Value).setIfInBounds 0 n0).setIfInBounds 1 n1).setIfInBounds 2 n2).setIfInBounds 3 n3).setIfInBounds 4 n4).setIfInBounds 5 n5).setIfInBounds 6 n6).setIfInBounds 7 n7 = #[n0, n1, n2, n3, n4, n5, n6, n7] := by simp
  rw [e] at g8
  exact g8
end Go.Proofs.YtgdmgmklncmanaaGreatDoor
