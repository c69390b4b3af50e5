/- The walk over a digest's bytes. -/
import Derived.Test.YtgdmgmklncmanaaGreatDoorDigW2
import Derived.Laws.Tables
import Derived.Laws.CopyOwn
namespace Go.Proofs.YtgdmgmklncmanaaGreatDoor
open Go.RowKit

def R8.nth (r : R8) : Nat → Int
  | 0 => r.a | 1 => r.b | 2 => r.c | 3 => r.d | 4 => r.e | 5 => r.f | 6 => r.g | _ => r.h
/-- The k-th byte of a digest. -/
def byteAt (r : R8) (k : Nat) : Int := r.nth (k / 4) / 2 ^ (24 - k % 4 * 8) % 256
/-- The row behind k rounds. -/
def sumTo (r : R8) : Nat → Array Value
  | 0 => Array.replicate 32 (.int .u8 0)
  | k + 1 => (sumTo r k).setIfInBounds k (.int .u8 (byteAt r k))
theorem sumTo_size (r : R8) : ∀ k, (sumTo r k).size = 32
  | 0 => by simp [sumTo]
  | k + 1 => by rw [sumTo, Array.size_setIfInBounds, sumTo_size r k]

theorem sumTo_one (r : R8) : ∀ k, ∀ v ∈ (sumTo r k), v.oneCell' = true
  | 0, v, h => by
    simp [sumTo] at h; subst h; rfl
  | k + 1, v, h => by
    rw [sumTo] at h
    rcases Array.mem_or_eq_of_mem_setIfInBounds h with h | rfl
    · exact sumTo_one r k v h
    · rfl
theorem sumTo_info (r : R8) (k : Nat) : (Tryz.prog.info? 164).map (·.size) = some (sumTo r k).size := by rw [sumTo_size]; kernel_rfl

structure BytesIn (B : Nat) (r : R8) (k : Nat) (w wr : World) : Prop where
  st : wr.heap[B]? = some (.cells r.vals 175 (0, 0))
  out : wr.heap[B + 1]? = some (.cells (sumTo r 0) 164 (0, 0))
  sum : wr.heap[B + 1 + 1]? = some (.cells (sumTo r k) 164 (0, 0))
  bel : Below w.heap.size w wr

set_option maxRecDepth 100000 in
set_option maxHeartbeats 4000000 in
theorem bytes_any (r : R8) (w : World) :
    Calls Tryz.prog 138 #[.agg r.vals] w fun e w' => e = .returned (.agg (sumTo r 32)) ∧ Below w.heap.size w w' := by
  obtain ⟨s0, s1, s2, s3, s4, s5, s6, s7⟩ := r
  obtain ⟨R, hR⟩ : ∃ R : R8, (⟨s0, s1, s2, s3, s4, s5, s6, s7⟩ : R8) = R := ⟨_, rfl⟩
  show Calls Tryz.prog _ #[.agg #[.int .u32 s0, .int .u32 s1, .int .u32 s2, .int .u32 s3, .int .u32 s4, .int .u32 s5, .int .u32 s6, .int .u32 s7]] w _
  rw [hR]
  have HR := hide hR
  clear hR
  go_enter Tryz.func138, Tryz.ntmps138
  go_wp2_with fail
  go_loopw [5] (fun i wr => ∃ k : Nat, k ≤ 32 ∧ i = .int .i64 k ∧ Hid (BytesIn w.heap.size R k w wr)) (fun i _ => 32 - (intOf i).toNat)
  case atStart =>
    refine ⟨0, by omega, rfl, hide ?_⟩
    obtain ⟨h0, h1, h2, h3⟩ := alloc3 w (.cells #[.int .u32 s0, .int .u32 s1, .int .u32 s2, .int .u32 s3, .int .u32 s4, .int .u32 s5, .int .u32 s6, .int .u32 s7] 175) (.cells (sumTo R 0) 164) (.cells (sumTo R 0) 164)
    exact ⟨by rw [← HR.out]; exact h0, h1, h2, h3⟩
  case round =>
    obtain ⟨k, hk, rfl, HW⟩ := hrel
    by_cases hlt : k < 32
    · obtain ⟨old, hold⟩ : ∃ old, (sumTo R k)[k]? = some old := ⟨_, Array.getElem?_eq_getElem (by rw [sumTo_size]; exact hlt)⟩
      have rk := (row_cell HW.out.sum k).trans hold
      have fk := row_free HW.out.sum k
      clear hold
      have hst := HW.out.st
      rw [← HR.out] at hst
      have k0 := (row_cell hst 0).trans (show _ = some (.int .u32 s0) from rfl)
      have k1 := (row_cell hst 1).trans (show _ = some (.int .u32 s1) from rfl)
      have k2 := (row_cell hst 2).trans (show _ = some (.int .u32 s2) from rfl)
      have k3 := (row_cell hst 3).trans (show _ = some (.int .u32 s3) from rfl)
      have k4 := (row_cell hst 4).trans (show _ = some (.int .u32 s4) from rfl)
      have k5 := (row_cell hst 5).trans (show _ = some (.int .u32 s5) from rfl)
      have k6 := (row_cell hst 6).trans (show _ = some (.int .u32 s6) from rfl)
      have k7 := (row_cell hst 7).trans (show _ = some (.int .u32 s7) from rfl)
      clear hst
      have HN : Hid (∀ u, (.int .u8 (byteAt R k)) = u → BytesIn w.heap.size R (k + 1) w (wr.setCell ⟨w.heap.size + 1 + 1, k, none⟩ u)) := hide fun u hu => by
        subst hu
        exact ⟨(Below.heap_setCell _ _ _ _ (by simp; omega)).trans HW.out.st, (Below.heap_setCell _ _ _ _ (by simp)).trans HW.out.out, heap_setCell_same _ _ k _ _ _ HW.out.sum, HW.out.bel.setCell (p := ⟨w.heap.size + 1 + 1, k, none⟩) (by simp; omega) _⟩
      rcases (show k = 0 ∨ k = 1 ∨ k = 2 ∨ k = 3 ∨ k = 4 ∨ k = 5 ∨ k = 6 ∨ k = 7 ∨ k = 8 ∨ k = 9 ∨ k = 10 ∨ k = 11 ∨ k = 12 ∨ k = 13 ∨ k = 14 ∨ k = 15 ∨ k = 16 ∨ k = 17 ∨ k = 18 ∨ k = 19 ∨ k = 20 ∨ k = 21 ∨ k = 22 ∨ k = 23 ∨ k = 24 ∨ k = 25 ∨ k = 26 ∨ k = 27 ∨ k = 28 ∨ k = 29 ∨ k = 30 ∨ k = 31 from by omega) with rfl | rfl | rfl | rfl | rfl | rfl | rfl | rfl | rfl | rfl | rfl | rfl | rfl | rfl | rfl | rfl | rfl | rfl | rfl | rfl | rfl | rfl | rfl | rfl | rfl | rfl | rfl | rfl | rfl | rfl | rfl | rfl
      all_goals
        go_wp2_with fail
        go_roundw
        case rel => exact ⟨_, by omega, by go_num, hide (HN.out _ (by rw [← HR.out]; simp [byteAt, R8.nth]))⟩
        case measure => simp [intOf]
    · obtain rfl : k = 32 := by omega
      have h1 := HW.out.out
      have h2 := HW.out.sum
      have hb := HW.out.bel
      clear HW HR
      have h3 := setRow_heap wr (w.heap.size + 1) _ (sumTo R 32) _ _ h1
      have hb3 := below_setRow hb (g := w.heap.size + 1) (by omega) (sumTo R 32)
      have hone : (sumTo R 32).all (·.oneCell') = true := Array.all_eq_true_iff_forall_mem.2 (sumTo_one R 32)
      have HH := hide h1
      have HH2 := hide h2
      have HH3 := hide h3
      have HO := hide hone
      clear h1 h2 h3 hone
      go_wp2_with (first
        | (refine wpList_load_row rfl 164 _ rfl (w.heap.size + 1 + 1) rfl _ (sumTo R 32) (0, 0) _ HH2.out Tryz.underlying164 rfl (sumTo_info R 32) ?_)
        | (refine wpList_store_row rfl 164 _ _ rfl (w.heap.size + 1) (sumTo R 32) rfl rfl _ (sumTo R 0) HH.out (sumTo_info R 32) ((sumTo_size R 0).trans (sumTo_size R 32).symm) HO.out ?_))
      refine bodyPost_ret (results_cell_row rfl _ _ (w.heap.size + 1) _ _ (0, 0) _ rfl HH3.out Tryz.underlying164 rfl (sumTo_info R 32)) rfl ⟨rfl, hb3⟩
end Go.Proofs.YtgdmgmklncmanaaGreatDoor
