/- The walk over the document's own answer on versions: a version taken apart. -/
import Derived.Test.YtgdmgmklncmanaaGreatDoorRefW3
import Derived.Test.YtgdmgmklncmanaaGreatDoorRefMath
namespace Go.Proofs.YtgdmgmklncmanaaGreatDoor
open Go.RowKit

/-- The version that the call gathers lies in its second block, the answer's place in its first; nothing older has turned. -/
def VAt (w W : World) (E : Int) (M R : List UInt8) : Prop :=
  W.cell? ⟨w.heap.size + 1, 0, none⟩ = some (.int .i64 E) ∧ W.cell? ⟨w.heap.size + 1, 1, none⟩ = some (.string ⟨M.toArray⟩) ∧ W.cell? ⟨w.heap.size + 1, 2, none⟩ = some (.string ⟨R.toArray⟩) ∧
  W.cell? ⟨w.heap.size, 0, none⟩ = some (.int .i64 0) ∧ W.cell? ⟨w.heap.size, 1, none⟩ = some (.string ⟨#[]⟩) ∧ W.cell? ⟨w.heap.size, 2, none⟩ = some (.string ⟨#[]⟩) ∧
  W.frozen? ⟨w.heap.size + 1, 0, none⟩ = false ∧ W.frozen? ⟨w.heap.size + 1, 1, none⟩ = false ∧ W.frozen? ⟨w.heap.size + 1, 2, none⟩ = false ∧
  W.frozen? ⟨w.heap.size, 0, none⟩ = false ∧ W.frozen? ⟨w.heap.size, 1, none⟩ = false ∧ W.frozen? ⟨w.heap.size, 2, none⟩ = false ∧ Below w.heap.size w W
theorem vat_start (w : World) (t : TypeId) : VAt w ((w.alloc (.cells #[.int .i64 0, .string ⟨#[]⟩, .string ⟨#[]⟩] t)).alloc (.cells #[.int .i64 0, .string ⟨#[]⟩, .string ⟨#[48]⟩] t)) 0 [] [48] := by
  refine ⟨?_, ?_, ?_, ?_, ?_, ?_, ?_, ?_, ?_, ?_, ?_, ?_, ((Below.refl _ _).alloc (Nat.le_refl _) _).alloc (by simp) _⟩ <;> simp [go_sem]
theorem vat_drew {w W : World} {E : Int} {M R : List UInt8} (h : VAt w W E M R) (n : Nat) : VAt w (W.drewN n) E M R := by
  obtain ⟨a1, a2, a3, a4, a5, a6, a7, a8, a9, b1, b2, b3, b4⟩ := h
  have hc : ∀ a, (W.drewN n).cell? a = W.cell? a := fun a => rfl
  exact ⟨a1, a2, a3, a4, a5, a6, a7, a8, a9, b1, b2, b3, below_drewN b4 n⟩
theorem vat_E {w W : World} {E : Int} {M R : List UInt8} (h : VAt w W E M R) (E' : Int) : VAt w (W.setCell ⟨w.heap.size + 1, 0, none⟩ (.int .i64 E')) E' M R := by
  obtain ⟨a1, a2, a3, a4, a5, a6, a7, a8, a9, b1, b2, b3, b4⟩ := h
  refine ⟨World.cell?_setCell_same _ _ _ a1, ?_, ?_, ?_, ?_, ?_, ?_, ?_, ?_, ?_, ?_, ?_, b4.setCell (by simp) _⟩
  all_goals first
    | (rw [World.cell?_setCell_other _ _ _ _ (by simp)]; assumption)
    | (rw [World.frozen?_setCell]; assumption)
theorem vat_M {w W : World} {E : Int} {M R : List UInt8} (h : VAt w W E M R) (M' : List UInt8) : VAt w (W.setCell ⟨w.heap.size + 1, 1, none⟩ (.string ⟨M'.toArray⟩)) E M' R := by
  obtain ⟨a1, a2, a3, a4, a5, a6, a7, a8, a9, b1, b2, b3, b4⟩ := h
  refine ⟨?_, World.cell?_setCell_same _ _ _ a2, ?_, ?_, ?_, ?_, ?_, ?_, ?_, ?_, ?_, ?_, b4.setCell (by simp) _⟩
  all_goals first
    | (rw [World.cell?_setCell_other _ _ _ _ (by simp)]; assumption)
    | (rw [World.frozen?_setCell]; assumption)
theorem vat_R {w W : World} {E : Int} {M R : List UInt8} (h : VAt w W E M R) (R' : List UInt8) : VAt w (W.setCell ⟨w.heap.size + 1, 2, none⟩ (.string ⟨R'.toArray⟩)) E M R' := by
  obtain ⟨a1, a2, a3, a4, a5, a6, a7, a8, a9, b1, b2, b3, b4⟩ := h
  refine ⟨?_, ?_, World.cell?_setCell_same _ _ _ a3, ?_, ?_, ?_, ?_, ?_, ?_, ?_, ?_, ?_, b4.setCell (by simp) _⟩
  all_goals first
    | (rw [World.cell?_setCell_other _ _ _ _ (by simp)]; assumption)
    | (rw [World.frozen?_setCell]; assumption)

/-- What the call hands back. -/
def VPost (x : List UInt8) (w : World) : Ending → World → Prop := fun e w' => ∃ (E : Int) (M R : List UInt8) (ok : Bool),
  e = .returned (.tuple #[.agg #[.int .i64 E, .string ⟨M.toArray⟩, .string ⟨R.toArray⟩], .bool ok]) ∧ ok = Ver.fine x ∧ Below w.heap.size w w' ∧
    (ok = true → E = Ver.val (Ver.split3 x).e ∧ M = (Ver.split3 x).m ∧ R = (Ver.split3 x).r)

/-! ### What the cuts come to -/
theorem fine_of {x El m M R : List UInt8} (h0 : 1 ≤ x.length) (h1 : x.length ≤ 24) (hC : Ver.cutC x = (El, m)) (hE : Ver.okE El = true) (hM : Ver.cutM m = (M, R)) :
    Ver.fine x = (Ver.okM M && Ver.okR R) ∧ Ver.split3 x = ⟨El, M, R⟩ := by
  have e : Ver.split3 x = ⟨El, M, R⟩ := by simp only [Ver.split3, hC, hM]
  exact ⟨by simp [Ver.fine, e, h0, h1, hE], e⟩
theorem fine_not {x El m : List UInt8} (hC : Ver.cutC x = (El, m)) (hE : Ver.okE El = false) : Ver.fine x = false := by
  have e : (Ver.split3 x).e = El := by simp only [Ver.split3, hC]
  simp [Ver.fine, e, hE]
theorem all_ne {x : List UInt8} {d : UInt8} (h : x.all (fun c => c != d) = true) : ∀ c ∈ x, c ≠ d := by
  intro c hc; have := List.all_eq_true.1 h c hc; simpa using this
theorem cutC_at {x : List UInt8} {k : Nat} (hk : k < x.length) (ha : (x.take k).all (fun c => c != 58) = true) (hx : x[k] = 58) : Ver.cutC x = (x.take k, x.drop (k + 1)) := by
  have h := take_row (f := fun c => c != 58) ha (k := k) (l := x) (fun _ => by rw [hx]; rfl)
  have hc : x.contains 58 = true := by
    rw [List.contains_iff_mem]; exact hx ▸ List.getElem_mem hk
  simp only [Ver.cutC, hc, if_true, h.1, h.2, List.drop_drop]
theorem cutC_no {x : List UInt8} (ha : x.all (fun c => c != 58) = true) : Ver.cutC x = ([48], x) := by
  have hc : x.contains 58 = false := by simp; intro hm; exact all_ne ha 58 hm rfl
  simp only [Ver.cutC, hc]; rfl
theorem cutM_at {m : List UInt8} {k : Nat} (hk : k < m.length) (ha : (m.drop (k + 1)).all (fun c => c != 45) = true) (hx : m[k] = 45) : Ver.cutM m = (m.take k, m.drop (k + 1)) := by
  have e : m = m.take k ++ 45 :: m.drop (k + 1) := by
    conv => lhs; rw [← List.take_append_drop k m, List.drop_eq_getElem_cons hk, hx]
  conv => lhs; rw [e]
  exact Ver.cutM_split _ _ (all_ne ha)
theorem cutM_no {m : List UInt8} (ha : m.all (fun c => c != 45) = true) : Ver.cutM m = (m, [48]) := Ver.cutM_none m (all_ne ha)
theorem sgn_true : sgn true = Ver.isM := by funext c; simp [sgn]
theorem sgn_false : sgn false = Ver.isR := by funext c; simp [sgn]
theorem okM_of (M : List UInt8) (h : M ≠ []) : Ver.okM M = (sgnAll true M && Ver.isD (M.head h)) := by
  cases M with
  | nil => exact absurd rfl h
  | cons c l => simp [Ver.okM, sgnAll, Ver.allL, sgn_true, Bool.and_comm]
theorem okR_of (R : List UInt8) : Ver.okR R = sgnAll false R := by
  cases R with
  | nil => rfl
  | cons c l => simp [Ver.okR, sgnAll, Ver.allL, sgn_false]
theorem sgn_pos {m : Bool} {x : List UInt8} (h : sgnAll m x = true) : x ≠ [] := by
  rintro rfl; simp [sgnAll] at h

set_option maxHeartbeats 400000 in
theorem rver_short (x : List UInt8) (h : x.length = 0 ∨ 24 < x.length) (w : World) :
    Calls Tryz.prog 15 #[.string ⟨x.toArray⟩] w (VPost x w) := by
  have hf : Ver.fine x = false := by
    rcases h with h | h
    · have : ¬ 1 ≤ x.length := by omega
      simp [Ver.fine, this]
    · have : ¬ x.length ≤ 24 := by omega
      simp [Ver.fine, this]
  rcases h with h | h
  · have hs : (x.length : Int) < 1 := by omega
    clear h
    go_enter Tryz.func15, Tryz.ntmps15
    go_wp2
    exact bodyPost_ret (v := .tuple #[.agg #[.int .i64 0, .string ⟨#[]⟩, .string ⟨#[48]⟩], .bool false]) (by simp [results, Tryz.results15, go_sem]) rfl
      ⟨0, [], [48], false, rfl, hf.symm, ((Below.refl _ _).alloc (Nat.le_refl _) _).alloc (by simp) _, fun h => by cases h⟩
  · have hs : ¬ (x.length : Int) < 1 := by omega
    have hs' : (24 : Int) < x.length := by omega
    clear h
    go_enter Tryz.func15, Tryz.ntmps15
    go_wp2
    exact bodyPost_ret (v := .tuple #[.agg #[.int .i64 0, .string ⟨#[]⟩, .string ⟨#[48]⟩], .bool false]) (by simp [results, Tryz.results15, go_sem]) rfl
      ⟨0, [], [48], false, rfl, hf.symm, ((Below.refl _ _).alloc (Nat.le_refl _) _).alloc (by simp) _, fun h => by cases h⟩
end Go.Proofs.YtgdmgmklncmanaaGreatDoor
