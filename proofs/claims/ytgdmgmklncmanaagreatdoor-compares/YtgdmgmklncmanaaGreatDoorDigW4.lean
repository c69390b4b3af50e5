/- The walk over a block's words. -/
import Derived.Test.YtgdmgmklncmanaaGreatDoorDigW3
import Derived.BigRegion
import Derived.Deep.RegionWith
namespace Go.Proofs.YtgdmgmklncmanaaGreatDoor
open Go.RowKit

/-- Four bytes as a word. -/
def word4 (b : Nat → Int) (k : Nat) : Int :=
  bits BinOp.or IntKind.u32 (bits BinOp.or IntKind.u32 (bits BinOp.or IntKind.u32 (b (4 * k) % 4294967296 * 16777216 % 4294967296) (b (4 * k + 1) % 4294967296 * 65536 % 4294967296)) (b (4 * k + 2) % 4294967296 * 256 % 4294967296)) (b (4 * k + 3) % 4294967296)
/-- A block's words. -/
def wf (b : Nat → Int) (n : Nat) : Int :=
  if h : n < 16 then word4 b n else (sS1 (wf b (n - 2)) + wf b (n - 7) + sS0 (wf b (n - 15)) + wf b (n - 16)) % 4294967296
def schTo (b : Nat → Int) : Nat → Array Value
  | 0 => Array.replicate 64 (.int .u32 0)
  | k + 1 => (schTo b k).setIfInBounds k (.int .u32 (wf b k))
theorem schTo_size (b : Nat → Int) : ∀ k, (schTo b k).size = 64
  | 0 => by simp [schTo]
  | k + 1 => by rw [schTo, Array.size_setIfInBounds, schTo_size b k]
theorem schTo_get (b : Nat → Int) (j : Nat) (hj : j < 64) : ∀ k, j < k → (schTo b k)[j]? = some (.int .u32 (wf b j))
  | 0, h => by omega
  | k + 1, h => by
    rw [schTo, Array.getElem?_setIfInBounds]
    by_cases e : k = j
    · subst e; simp [schTo_size, hj]
    · rw [if_neg e]; exact schTo_get b j hj k (by omega)
theorem schTo_one (b : Nat → Int) : ∀ k, ∀ v ∈ (schTo b k), v.oneCell' = true
  | 0, v, h => by
    simp [schTo] at h; subst h; rfl
  | k + 1, v, h => by
    rw [schTo] at h
    rcases Array.mem_or_eq_of_mem_setIfInBounds h with h | rfl
    · exact schTo_one b k v h
    · rfl
theorem schTo_info (b : Nat → Int) (k : Nat) : (Tryz.prog.info? 178).map (·.size) = some (schTo b k).size := by rw [schTo_size]; kernel_rfl
structure SchIn (b : Nat → Int) (k : Nat) (w wr : World) : Prop where
  out : wr.heap[w.heap.size]? = some (.cells (schTo b 0) 178 (0, 0))
  row : wr.heap[w.heap.size + 1]? = some (.cells (schTo b k) 178 (0, 0))
  bel : Below w.heap.size w wr
theorem alloc2 (w : World) (a b : Obj) : ((w.alloc a).alloc b).heap[w.heap.size]? = some a ∧ ((w.alloc a).alloc b).heap[w.heap.size + 1]? = some b ∧ Below w.heap.size w ((w.alloc a).alloc b) := by
  have e1 : (w.alloc a).heap.size = w.heap.size + 1 := by simp
  refine ⟨?_, ?_, ?_⟩
  · rw [Below.heap_alloc _ _ _ (by omega), heap_alloc_new]
  · rw [← e1, heap_alloc_new]
  · exact ((Below.refl _ w).alloc (Nat.le_refl _) a).alloc (by omega) b
theorem SchIn.next {b : Nat → Int} {k : Nat} {w wr : World} (h : SchIn b k w wr) {u : Value} (hu : u = .int .u32 (wf b k)) : SchIn b (k + 1) w (wr.setCell ⟨w.heap.size + 1, k, none⟩ u) := by
  subst hu
  exact ⟨(Below.heap_setCell _ _ _ _ (by simp)).trans h.out, heap_setCell_same _ _ k _ _ _ h.row, h.bel.setCell (p := ⟨w.heap.size + 1, k, none⟩) (by simp) _⟩
theorem SchIn.drew {b : Nat → Int} {k : Nat} {w wr : World} (h : SchIn b k w wr) : SchIn b k w wr.drew := ⟨h.out, h.row, h.bel.drew⟩
theorem wf_low {b : Nat → Int} {k : Nat} (h : k < 16) : wf b k = word4 b k := by rw [wf, dif_pos h]
theorem wf_high {b : Nat → Int} {k : Nat} (h : ¬ k < 16) : wf b k = (sS1 (wf b (k - 2)) + wf b (k - 7) + sS0 (wf b (k - 15)) + wf b (k - 16)) % 4294967296 := by
  conv => lhs; rw [wf, dif_neg h]

end Go.Proofs.YtgdmgmklncmanaaGreatDoor
