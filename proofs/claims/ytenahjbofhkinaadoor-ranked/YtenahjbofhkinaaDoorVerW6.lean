/- The walk over version.Compare: two versions in their parts. -/
import Derived.Test.YtenahjbofhkinaaDoorVerW5
import Derived.Deep.RegionHeld3
namespace Go.Proofs.YtenahjbofhkinaaDoor
open Go.RowKit

def vv (v : Ver.V) : Value := .agg #[.string ⟨v.e.toArray⟩, .string ⟨v.m.toArray⟩, .string ⟨v.r.toArray⟩]
theorem three_cells {w : World} {b : Nat} {x y z : Int} (h0 : w.cell? ⟨b, 0, none⟩ = some (.int .i64 x)) (h1 : w.cell? ⟨b, 1, none⟩ = some (.int .i64 y)) (h2 : w.cell? ⟨b, 2, none⟩ = some (.int .i64 z)) :
    ∀ j, j < [x, y, z].length → w.cell? ⟨b, j, none⟩ = some (.int .i64 ([x, y, z].getD j 0)) := by
  intro j hj
  match j, hj with
  | 0, _ => exact h0
  | 1, _ => exact h1
  | 2, _ => exact h2
theorem nz_three (x y z : Int) : firstNZ [x, y, z] = Ver.or3 x (Ver.or3 y z) := by
  by_cases h : z = 0 <;> simp [firstNZ, Ver.or3, h]
theorem or_three (x y z : Int) (w : World) :
    Calls Tryd.prog 14 #[.slice (some ⟨w.heap.size, 0, none⟩) 3 3] (w.alloc (.cells #[.int .i64 x, .int .i64 y, .int .i64 z] 3)) fun e w' =>
      e = .returned (.int .i64 (Ver.or3 x (Ver.or3 y z))) ∧ w' = w.alloc (.cells #[.int .i64 x, .int .i64 y, .int .i64 z] 3) := by
  rw [← nz_three]
  exact or_any w.heap.size 3 3 [x, y, z] rfl (by decide) _ (three_cells (by simp [go_sem]) (by simp [go_sem]) (by simp [go_sem]))

/-- Two versions lie, part by part, in two blocks of the call's own; below them nothing has turned. -/
def Six (a1 a2 a3 b1 b2 b3 : List UInt8) (w w' : World) : Prop :=
  w'.cell? ⟨w.heap.size, 0, none⟩ = some (.string ⟨a1.toArray⟩) ∧ w'.cell? ⟨w.heap.size, 1, none⟩ = some (.string ⟨a2.toArray⟩) ∧ w'.cell? ⟨w.heap.size, 2, none⟩ = some (.string ⟨a3.toArray⟩)
      ∧ w'.cell? ⟨w.heap.size + 1, 0, none⟩ = some (.string ⟨b1.toArray⟩) ∧ w'.cell? ⟨w.heap.size + 1, 1, none⟩ = some (.string ⟨b2.toArray⟩) ∧ w'.cell? ⟨w.heap.size + 1, 2, none⟩ = some (.string ⟨b3.toArray⟩) ∧ Below w.heap.size w w'
theorem six_start (a1 a2 a3 b1 b2 b3 : List UInt8) (w : World) (t : TypeId) : Six a1 a2 a3 b1 b2 b3 w
    ((w.alloc (.cells #[.string ⟨a1.toArray⟩, .string ⟨a2.toArray⟩, .string ⟨a3.toArray⟩] t)).alloc (.cells #[.string ⟨b1.toArray⟩, .string ⟨b2.toArray⟩, .string ⟨b3.toArray⟩] t)).drew := by
  refine ⟨?_, ?_, ?_, ?_, ?_, ?_, (((Below.refl _ _).alloc (Nat.le_refl _) _).alloc (by simp) _).drew⟩ <;> simp [go_sem]
theorem cell_keeps {W W' : World} {p : Addr} {v : Value} (hb : Below W.heap.size W W') (h : W.cell? p = some v) : W'.cell? p = some v :=
  (hb.cell (World.block_lt_of_cell? W p h)).trans h
theorem six_on {a1 a2 a3 b1 b2 b3 : List UInt8} {w W W' : World} (hb : Below W.heap.size W W') (h : Six a1 a2 a3 b1 b2 b3 w W) : Six a1 a2 a3 b1 b2 b3 w W' := by
  obtain ⟨h1, h2, h3, h4, h5, h6, h7⟩ := h
  exact ⟨cell_keeps hb h1, cell_keeps hb h2, cell_keeps hb h3, cell_keeps hb h4, cell_keeps hb h5, cell_keeps hb h6, h7.trans (hb.mono h7.size)⟩
theorem six_alloc {a1 a2 a3 b1 b2 b3 : List UInt8} {w W : World} {o : Obj} (h : Six a1 a2 a3 b1 b2 b3 w W) : Six a1 a2 a3 b1 b2 b3 w (W.alloc o) :=
  six_on ((Below.refl _ _).alloc (Nat.le_refl _) _) h

set_option maxHeartbeats 1000000 in
theorem vcmp_any (a1 a2 a3 b1 b2 b3 : List UInt8) (ha1 : a1.length ≤ 24) (ha2 : a2.length ≤ 24) (ha3 : a3.length ≤ 24) (hb1 : b1.length ≤ 24) (hb2 : b2.length ≤ 24) (hb3 : b3.length ≤ 24) (w : World) :
    Calls Tryd.prog 8 #[vv ⟨a1, a2, a3⟩, vv ⟨b1, b2, b3⟩] w fun e w' => e = .returned (.int .i64 (Ver.cmpV ⟨a1, a2, a3⟩ ⟨b1, b2, b3⟩)) ∧ Below w.heap.size w w' := by
  simp only [vv]
  go_enter Tryd.func8, Tryd.ntmps8
  go_wp2_with fail
  go_region_held3 (fun w' => w'.cell? ⟨w.heap.size, 0, none⟩ = some (.string ⟨a1.toArray⟩) ∧ w'.cell? ⟨w.heap.size, 1, none⟩ = some (.string ⟨a2.toArray⟩) ∧ w'.cell? ⟨w.heap.size, 2, none⟩ = some (.string ⟨a3.toArray⟩)
      ∧ w'.cell? ⟨w.heap.size + 1, 0, none⟩ = some (.string ⟨b1.toArray⟩) ∧ w'.cell? ⟨w.heap.size + 1, 1, none⟩ = some (.string ⟨b2.toArray⟩) ∧ w'.cell? ⟨w.heap.size + 1, 2, none⟩ = some (.string ⟨b3.toArray⟩) ∧ Below w.heap.size w w')
    (first | assumption | exact six_start _ _ _ _ _ _ _ _ | exact six_on (by assumption) (by assumption) | exact six_alloc (by assumption))
    (first
      | (go_at_call 15; refine (nums_list a1 b1 ha1 hb1 _).mono ?_; rintro e w' ⟨rfl, hb⟩)
      | (go_at_call 16; refine (parts_any _ _ (by assumption) (by assumption) _).mono ?_; rintro e w' ⟨rfl, hb⟩)
      | (go_at_call 14; refine (or_three _ _ _ _).mono ?_; rintro e w' ⟨rfl, rfl⟩))
  go_wp2
  go_ret
  exact ⟨rfl, (show Six a1 a2 a3 b1 b2 b3 w _ by assumption).2.2.2.2.2.2⟩
end Go.Proofs.YtenahjbofhkinaaDoor
