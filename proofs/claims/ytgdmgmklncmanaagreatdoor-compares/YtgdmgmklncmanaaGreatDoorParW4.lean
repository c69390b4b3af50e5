/- The walk over the lines behind the first three. -/
import Derived.Test.YtgdmgmklncmanaaGreatDoorParW3
namespace Go.Proofs.YtgdmgmklncmanaaGreatDoor
open Go.RowKit
open Arc (St Cmd S)

theorem split_any (d : UInt8) (x : S) (hx : x.length ≤ 2000) (mx : Int) (w : World) (hm : w.cell? ⟨0, 0, none⟩ = some (.int .i64 mx)) :
    Calls Tryz.prog 41 #[.string ⟨x.toArray⟩, .string ⟨#[d]⟩] w fun e w' => e = .returned (.slice (some ⟨w.heap.size, 0, none⟩) (sp d x).length (sp d x).length) ∧ w' = w.alloc (.cells ((sp d x).map strV).toArray 9) := by
  refine (Tryz.strings_Split ⟨x.toArray⟩ ⟨#[d]⟩ mx w (by simp [ByteArray.size]; omega) hm (Nat.le_refl 1)).mono ?_
  rintro e w' ⟨he, hw⟩
  rw [countB_sp] at he
  refine ⟨he, ?_⟩
  rw [hw, splitB_sp, List.map_map]
  rfl

/-- The kind of the line x. -/
def kof (x : S) : Int := kd ((sp 32 x).getD 0 [])
/-- The kind of the line ahead of the k-th. -/
def lastK (L : List S) : Nat → Int
  | 0 => 0
  | k + 1 => kof (L.getD k [])
def LineOk (pb : Nat) (nm ve : S) (st : Nat → St) (x : S) (k : Nat) (w : World) : Prop :=
  ∀ (sl : Fin 6 → Value) (w1 : World), PIn pb nm ve (st k) sl w1 → Below pb w w1 → ∀ q, q < w1.heap.size → (∀ j, j < (sp 32 x).length → w1.cell? ⟨q, j, none⟩ = some (strV ((sp 32 x).getD j []))) →
    Calls Tryz.prog 71 #[.pointer (some ⟨pb, 0, none⟩), .int .i64 (kof x), .slice (some ⟨q, 1, none⟩) ((sp 32 x).length - 1) ((sp 32 x).length - 1)] w1
      fun e w2 => e = .returned (.bool true) ∧ ∃ sl', PIn pb nm ve (st (k + 1)) sl' w2 ∧ Below pb w1 w2

theorem line_at {pb : Nat} {nm ve : S} {st : Nat → St} {x : S} {k n : Nat} {z : Int} {w w1 : World} {sl : Fin 6 → Value} {q : Nat} (h : Hid (LineOk pb nm ve st x k w)) (hz : Hid (kof x = z)) (hn : Hid ((sp 32 x).length = n)) (hp : PIn pb nm ve (st k) sl w1) (hb : Below pb w w1)
    (hq : q < w1.heap.size) (hc : ∀ j, j < (sp 32 x).length → w1.cell? ⟨q, j, none⟩ = some (strV ((sp 32 x).getD j []))) :
    Calls Tryz.prog 71 #[.pointer (some ⟨pb, 0, none⟩), .int .i64 z, .slice (some ⟨q, 1, none⟩) (n - 1) (n - 1)] w1
      fun e w2 => e = .returned (.bool true) ∧ ∃ sl', PIn pb nm ve (st (k + 1)) sl' w2 ∧ Below pb w1 w2 := by
  have := h.out sl w1 hp hb q hq hc
  rwa [hz.out, hn.out] at this
theorem parts_cells {d : UInt8} {x : S} {wr w1 : World} (hw : w1 = wr.alloc (.cells ((sp d x).map strV).toArray 9)) : ∀ j, j < (sp d x).length → w1.cell? ⟨wr.heap.size, j, none⟩ = some (strV ((sp d x).getD j [])) := by
  intro j hj
  subst hw
  rw [row_cell (heap_alloc_new wr _)]
  simp [List.getD, List.getElem?_eq_getElem hj]
theorem split_below {wr w1 : World} {o : Obj} (hw : w1 = wr.alloc o) : Below wr.heap.size wr w1 ∧ w1.heap.size = wr.heap.size + 1 := by
  subst hw
  exact ⟨(Below.refl _ wr).alloc (Nat.le_refl _) _, by simp⟩

set_option maxRecDepth 100000 in
set_option maxHeartbeats 1000000 in
theorem body_ok (pb lg lo lc : Nat) (nm ve : S) (st : Nat → St) (L : List S) (mx : Int) (sl : Fin 6 → Value) (w : World) (h : PIn pb nm ve (st 0) sl w) (hp0 : 9 ≤ pb) (hlg : lg < pb) (hL : L.length ≤ 21) (hll : ∀ x ∈ L, x.length ≤ 2000)
    (hm : w.cell? ⟨0, 0, none⟩ = some (.int .i64 mx)) (hc : ∀ k, k < L.length → w.cell? ⟨lg, lo + k, none⟩ = some (strV (L.getD k [])))
    (hkind : ∀ k, k < L.length → kof (L.getD k []) ≠ 0 ∧ lastK L k ≤ kof (L.getD k [])) (hlen : ∀ k, k < L.length → 2 ≤ (sp 32 (L.getD k [])).length)
    (hline : ∀ k, k < L.length → LineOk pb nm ve st (L.getD k []) k w) :
    Calls Tryz.prog 43 #[.pointer (some ⟨pb, 0, none⟩), .slice (some ⟨lg, lo, none⟩) L.length lc] w fun e w' => e = .returned (.bool true) ∧ ∃ sl', PIn pb nm ve (st L.length) sl' w' ∧ Below pb w w' := by
  have H := hide h; have HM := hide hm; have HC := hide hc; have HK := hide hkind; have HLN := hide hlen; have HLINE := hide hline
  have hlt := h.lt
  clear h hm hc hkind hlen hline
  go_enter Tryz.func43, Tryz.ntmps43
  go_wp2_with fail
  go_loopw [5, 12] (fun l i wr => ∃ (k : Nat) (sl : Fin 6 → Value), k ≤ L.length ∧ i = .int .i64 k ∧ l = .int .i64 (lastK L k) ∧ Hid (PIn pb nm ve (st k) sl wr) ∧ Hid (Below pb w wr))
    (fun _ i _ => L.length - (intOf i).toNat)
  case atStart => exact ⟨0, sl, Nat.zero_le _, rfl, rfl, H, hide (Below.refl _ _)⟩
  case round =>
    clear H
    obtain ⟨k, sl, hk, rfl, rfl, HP, HB⟩ := hrel
    by_cases hlt2 : k < L.length
    · have b1 : (k : Int) < (L.length : Int) := by omega
      have hcell := (HB.out.cell (p := ⟨lg, lo + k, none⟩) hlg).trans (HC.out k hlt2)
      obtain ⟨x, hx⟩ : ∃ x, L.getD k [] = x := ⟨_, rfl⟩
      have hxl : x.length ≤ 2000 := by
        rw [← hx, List.getD, List.getElem?_eq_getElem hlt2]; exact hll _ (List.getElem_mem hlt2)
      have hk1 := HK.out k hlt2
      have hln := HLN.out k hlt2
      have hli := HLINE.out k hlt2
      rw [hx] at hcell hk1 hln hli
      have hcell' : wr.cell? ⟨lg, lo + k, none⟩ = some (.string ⟨x.toArray⟩) := hcell
      obtain ⟨z, hz⟩ : ∃ z, kof x = z := ⟨_, rfl⟩
      rw [hz] at hk1
      have hlast : lastK L (k + 1) = z := by rw [lastK, hx, hz]
      obtain ⟨l0, hl0⟩ : ∃ l0, lastK L k = l0 := ⟨_, rfl⟩
      rw [hl0] at hk1 ⊢
      have z0 : (z == 0) = false := by simp [hk1.1]
      have z1 : ¬ z < l0 := by omega
      obtain ⟨n, hn⟩ : ∃ n, (sp 32 x).length = n := ⟨_, rfl⟩
      rw [hn] at hln
      have HX := hide hx; have HZ := hide hz; have HLI := hide hli; have HN := hide hn; have HLAST := hide hlast
      have hbs := HB.out.size
      have hm2 : wr.cell? ⟨0, 0, none⟩ = some (.int .i64 mx) := (HB.out.cell (p := ⟨0, 0, none⟩) (by show 0 < pb; omega)).trans HM.out
      have HM2 := hide hm2
      clear hx hz hli hn hlast hcell hk1 hm2 hl0
      obtain ⟨x0, hx0⟩ : ∃ x0, (sp 32 x).getD 0 [] = x0 := ⟨_, rfl⟩
      have HX0 := hide hx0
      have HZ0 : Hid (kd x0 = z) := hide (by rw [← hx0]; exact HZ.out)
      clear hx0
      have hn1 : ¬ n = 1 := by omega
      go_wp2_with (first
        | (go_at_call 41; refine (split_any 32 x hxl mx _ HM2.out).mono ?_; rintro e w1 ⟨he, hw1⟩; rw [HN.out] at he; subst he; have HQ := hide (parts_cells hw1); have q0 : w1.cell? ⟨wr.heap.size, 0, none⟩ = some (.string ⟨x0.toArray⟩) := (HQ.out 0 (by rw [HN.out]; omega)).trans (by rw [HX0.out]; rfl); have HB1 := hide (split_below hw1); clear hw1)
        | (go_at_call 70; refine (kindOf_any x0 _).mono ?_; rintro e w2 ⟨he, rfl⟩; rw [HZ0.out] at he; subst he)
        | (go_at_call 71; refine (line_at HLI HZ HN (HP.out.below HB1.out.1) (HB.out.trans (HB1.out.1.mono (Nat.le_of_lt HP.out.lt))) (by have := HB1.out.2; omega) HQ.out).mono ?_; rintro e w3 ⟨rfl, sl3, hp3, hb3⟩))
      go_roundw
      case rel =>
        exact ⟨k + 1, sl3, by omega, by go_num, by rw [HLAST.out], hide hp3, hide ((HB.out.trans (HB1.out.1.mono (Nat.le_of_lt HP.out.lt))).trans hb3)⟩
      case measure => simp [intOf]; omega
    · obtain rfl : k = L.length := by omega
      go_wp2_with fail
      go_ret
      exact ⟨rfl, sl, HP.out, HB.out⟩
end Go.Proofs.YtgdmgmklncmanaaGreatDoor
