/- The document's archive, taken apart; and the same with one sign more. -/
import Derived.Test.YtgdmgmklncmanaaGreatDoorInsW2
import Derived.Test.YtgdmgmklncmanaaGreatDoorTeaHash
namespace Go.Proofs.YtgdmgmklncmanaaGreatDoor
open Go.RowKit
open Arc (St Cmd S)

def teaHead : S := [104, 97, 118, 101, 110, 32, 49, 10, 110, 97, 109, 101, 32, 116, 101, 97, 10, 118, 101, 114, 115, 105, 111, 110, 32, 49, 46, 48, 10, 102, 105, 108, 101, 32, 47, 98, 105, 110, 47, 116, 101, 97, 32, 53, 32, 98, 97, 52, 55, 56, 56, 98, 50, 50, 54, 97, 97, 56, 100, 99, 50, 10, 114, 117, 110, 32, 97, 100, 100, 32, 47, 118, 97, 114, 47, 108, 111, 103, 32, 116, 101, 97]
def teaL1 : S := [102, 105, 108, 101, 32, 47, 98, 105, 110, 47, 116, 101, 97, 32, 53, 32, 98, 97, 52, 55, 56, 56, 98, 50, 50, 54, 97, 97, 56, 100, 99, 50]
def teaL2 : S := [114, 117, 110, 32, 97, 100, 100, 32, 47, 118, 97, 114, 47, 108, 111, 103, 32, 116, 101, 97]
def teaPath : S := [47, 98, 105, 110, 47, 116, 101, 97]
def teaLog : S := [47, 118, 97, 114, 47, 108, 111, 103]
def teaNm : S := [116, 101, 97]
def teaVe : S := [49, 46, 48]
def teaSum : S := [98, 97, 52, 55, 56, 56, 98, 50, 50, 54, 97, 97, 56, 100, 99, 50]
/-- The archive; e: what stands behind it. -/
def teaX (e : S) : S := teaHead ++ [10, 10] ++ green ++ e
def teaSt (e : S) : Nat → St
  | 0 => .of (green ++ e)
  | 1 => { needs := [], breaks := [], wakes := [], files := [(teaPath, green)], runs := [], wokens := [], left := e }
  | _ => { needs := [], breaks := [], wakes := [], files := [(teaPath, green)], runs := [⟨2, teaLog, teaNm, []⟩], wokens := [], left := e }

theorem tea_line0 (e : S) (he : e.length ≤ 1) (pb : Nat) (hp0 : 9 ≤ pb) (mx : Int) (w : World) (hm : w.cell? ⟨0, 0, none⟩ = some (.int .i64 mx)) (hK : ∀ i : Nat, i < 64 → w.cell? ⟨3, i, none⟩ = some (.int .u32 (kTab i))) :
    LineOk pb teaNm teaVe (teaSt e) teaL1 0 w := by
  intro sl w1 hp hb q hq hc
  rw [show kof teaL1 = 4 by kernel_rfl, show (sp 32 teaL1).length - 1 = 3 by kernel_rfl]
  have hc' : ∀ j, j < 4 → w1.cell? ⟨q, j, none⟩ = some (strV ((sp 32 teaL1).getD j [])) := fun j hj => hc j (by rw [show (sp 32 teaL1).length = 4 by kernel_rfl]; exact hj)
  have h := line_file pb q 1 3 teaNm teaVe (teaSt e 0) sl teaPath [53] teaSum 5 mx kTab w1 hp hp0 rfl (by decide) (by show (green ++ e).length ≤ 2000; rw [List.length_append]; have : green.length = 5 := rfl; omega)
    (by decide) (by decide) (by decide) (by kernel_rfl) (by kernel_rfl) (by show 5 ≤ (green ++ e).length; rw [List.length_append]; have : green.length = 5 := rfl; omega) (by kernel_rfl) (by kernel_rfl)
    (by rw [show (teaSt e 0).left.take 5 = green from by show (green ++ e).take 5 = green; simp [green]]; exact short_green)
    ((hb.cell (p := ⟨0, 0, none⟩) (by show 0 < pb; omega)).trans hm)
    (fun i hi => (hb.cell (p := ⟨3, i, none⟩) (by show 3 < pb; omega)).trans (hK i hi))
    (hc' 1 (by omega)) (hc' 2 (by omega)) (hc' 3 (by omega))
  refine h.mono ?_
  rintro e' w2 ⟨rfl, sl', hp2, hb2⟩
  refine ⟨rfl, sl', ?_, hb2⟩
  have e1 : (teaSt e 0).left.take 5 = green := by show (green ++ e).take 5 = green; simp [green]
  have e2 : (teaSt e 0).left.drop 5 = e := by show (green ++ e).drop 5 = e; simp [green]
  rw [e1, e2] at hp2
  exact hp2

theorem tea_line1 (e : S) (pb : Nat) (hp0 : 9 ≤ pb) (mx : Int) (w : World) (hm : w.cell? ⟨0, 0, none⟩ = some (.int .i64 mx)) :
    LineOk pb teaNm teaVe (teaSt e) teaL2 1 w := by
  intro sl w1 hp hb q hq hc
  rw [show kof teaL2 = 5 by kernel_rfl, show (sp 32 teaL2).length - 1 = 3 by kernel_rfl]
  have hc' : ∀ j, j < 4 → w1.cell? ⟨q, j, none⟩ = some (strV ((sp 32 teaL2).getD j [])) := fun j hj => hc j (by rw [show (sp 32 teaL2).length = 4 by kernel_rfl]; exact hj)
  have h := line_run pb q 1 3 teaNm teaVe (teaSt e 1) sl teaLog teaNm mx w1 hp (by show (0 : Nat) ≤ 30; omega) (by decide) (by decide) (by kernel_rfl) (by kernel_rfl)
    ((hb.cell (p := ⟨0, 0, none⟩) (by show 0 < pb; omega)).trans hm) hq (hc' 1 (by omega)) (hc' 2 (by omega)) (hc' 3 (by omega))
  exact h

theorem tea_lines (e : S) (he : e.length ≤ 1) (mx : Int) (w : World) (hw9 : 9 ≤ w.heap.size) (hm : w.cell? ⟨0, 0, none⟩ = some (.int .i64 mx)) (hK : ∀ i : Nat, i < 64 → w.cell? ⟨3, i, none⟩ = some (.int .u32 (kTab i))) :
    ∀ w1, Below w.heap.size w w1 → ∀ k, k < [teaL1, teaL2].length → LineOk (w.heap.size + 1 + 1) teaNm teaVe (teaSt e) ([teaL1, teaL2].getD k []) k w1 := by
  intro w1 hb k hk
  have hm1 := (hb.cell (p := ⟨0, 0, none⟩) (by show 0 < w.heap.size; omega)).trans hm
  have hK1 : ∀ i : Nat, i < 64 → w1.cell? ⟨3, i, none⟩ = some (.int .u32 (kTab i)) := fun i hi => (hb.cell (p := ⟨3, i, none⟩) (by show 3 < w.heap.size; omega)).trans (hK i hi)
  match k, hk with
  | 0, _ => exact tea_line0 e he _ (by omega) mx w1 hm1 hK1
  | 1, _ => exact tea_line1 e _ (by omega) mx w1 hm1
  | k + 2, h => exact absurd h (by simp)

theorem tea_kinds : ∀ k, k < [teaL1, teaL2].length → kof ([teaL1, teaL2].getD k []) ≠ 0 ∧ lastK [teaL1, teaL2] k ≤ kof ([teaL1, teaL2].getD k []) := by
  intro k hk
  match k, hk with
  | 0, _ => exact ⟨by decide +kernel, by decide +kernel⟩
  | 1, _ => exact ⟨by decide +kernel, by decide +kernel⟩
  | k + 2, h => exact absurd h (by simp)
theorem tea_lens : ∀ k, k < [teaL1, teaL2].length → 2 ≤ (sp 32 ([teaL1, teaL2].getD k [])).length := by
  intro k hk
  match k, hk with
  | 0, _ => exact of_decide_eq_true (by kernel_rfl)
  | 1, _ => exact of_decide_eq_true (by kernel_rfl)
  | k + 2, h => exact absurd h (by simp)

/-- The document's archive. -/
theorem tea_ok (mx : Int) (w : World) (hw9 : 9 ≤ w.heap.size) (hm : w.cell? ⟨0, 0, none⟩ = some (.int .i64 mx)) (hK : ∀ i : Nat, i < 64 → w.cell? ⟨3, i, none⟩ = some (.int .u32 (kTab i))) :
    Calls Tryz.prog 9 #[.string ⟨(teaX []).toArray⟩] w fun e w' => ∃ o, e = .returned (.tuple #[.agg #[.string ⟨teaNm.toArray⟩, .string ⟨teaVe.toArray⟩, .int .i64 0, .int .i64 0, .int .i64 0, .int .i64 1, .int .i64 1, .int .i64 0, o], .int .i64 0])
      ∧ w'.ownsRow w.heap.size 9 1 o 1 [.string ⟨teaPath.toArray⟩] ∧ Below w.heap.size w w' := by
  have h := inspect_ok (teaX []) teaNm teaVe (teaSt [] 2) w (by decide) (by decide) (by decide) (by intro p hp; simp [teaSt] at hp; subst hp; decide) (fun w1 hb hs =>
    archive_ok (teaX []) teaHead (green ++ []) [110, 97, 109, 101, 32, 116, 101, 97] [118, 101, 114, 115, 105, 111, 110, 32, 49, 46, 48] teaNm teaVe [teaL1, teaL2] (teaSt []) mx w1 (of_decide_eq_true (by kernel_rfl)) (by kernel_rfl) (of_decide_eq_true (by kernel_rfl)) (by kernel_rfl) (by decide) (by decide)
      (by intro y hy; simp at hy; rcases hy with rfl | rfl <;> exact of_decide_eq_true (by kernel_rfl)) (by decide) (by omega) (by kernel_rfl) (by kernel_rfl) (by kernel_rfl) (by kernel_rfl) (by kernel_rfl) (by kernel_rfl)
      ((hb.cell (p := ⟨0, 0, none⟩) (by show 0 < w.heap.size; omega)).trans hm) rfl tea_kinds tea_lens
      (tea_lines [] (by decide) mx w1 (by omega) ((hb.cell (p := ⟨0, 0, none⟩) (by show 0 < w.heap.size; omega)).trans hm) (fun i hi => (hb.cell (p := ⟨3, i, none⟩) (by show 3 < w.heap.size; omega)).trans (hK i hi))) rfl)
  exact h

/-- With a blank behind it there is none. -/
theorem tea_bad (mx : Int) (w : World) (hw9 : 9 ≤ w.heap.size) (hm : w.cell? ⟨0, 0, none⟩ = some (.int .i64 mx)) (hK : ∀ i : Nat, i < 64 → w.cell? ⟨3, i, none⟩ = some (.int .u32 (kTab i))) :
    Calls Tryz.prog 9 #[.string ⟨(teaX [32]).toArray⟩] w fun e w' => e = .returned (.tuple #[.agg noInfo, .int .i64 3]) ∧ Below w.heap.size w w' :=
  inspect_bad (teaX [32]) w (fun w1 hb hs =>
    archive_left (teaX [32]) teaHead (green ++ [32]) [110, 97, 109, 101, 32, 116, 101, 97] [118, 101, 114, 115, 105, 111, 110, 32, 49, 46, 48] teaNm teaVe [teaL1, teaL2] (teaSt [32]) mx w1 (of_decide_eq_true (by kernel_rfl)) (by kernel_rfl) (of_decide_eq_true (by kernel_rfl)) (by kernel_rfl) (by decide) (by decide)
      (by intro y hy; simp at hy; rcases hy with rfl | rfl <;> exact of_decide_eq_true (by kernel_rfl)) (by decide) (by omega) (by kernel_rfl) (by kernel_rfl) (by kernel_rfl) (by kernel_rfl) (by kernel_rfl) (by kernel_rfl)
      ((hb.cell (p := ⟨0, 0, none⟩) (by show 0 < w.heap.size; omega)).trans hm) rfl tea_kinds tea_lens
      (tea_lines [32] (by decide) mx w1 (by omega) ((hb.cell (p := ⟨0, 0, none⟩) (by show 0 < w.heap.size; omega)).trans hm) (fun i hi => (hb.cell (p := ⟨3, i, none⟩) (by show 3 < w.heap.size; omega)).trans (hK i hi))) [32] rfl rfl)
end Go.Proofs.YtgdmgmklncmanaaGreatDoor
