/- The walks over the paths of an archive's files, and over what looks into an archive. -/
import Derived.Test.YtgdmgmklncmanaaGreatDoorParW6
namespace Go.Proofs.YtgdmgmklncmanaaGreatDoor
open Go.RowKit
open Arc (St Cmd S)

theorem clone_any (x : S) (hx : x.length ≤ 2000) (w : World) :
    Calls Tryz.prog 19 #[.string ⟨x.toArray⟩] w fun e w' => e = .returned (.string ⟨x.toArray⟩) ∧ Below w.heap.size w w' := by
  go_enter Tryz.func19, Tryz.ntmps19
  go_wp2_with (go_at_call 44; refine (Tryz.stringslite_Clone ⟨x.toArray⟩ _ (by simp [ByteArray.size]; omega)).mono ?_; rintro e w1 ⟨rfl, hb⟩)
  go_ret
  exact ⟨rfl, hb⟩
theorem pair_at (F : List (S × S)) (k : Nat) (hk : k < F.length) : (F.flatMap pairV)[2 * k]? = some (strV (F.getD k ([], [])).1) ∧ (F.flatMap pairV)[2 * k + 1]? = some (strV (F.getD k ([], [])).2) := by
  induction F generalizing k with
  | nil => simp at hk
  | cons a l ih =>
    cases k with
    | zero => simp [pairV]
    | succ k =>
      have := ih k (by simpa using hk)
      rw [show 2 * (k + 1) = 2 * k + 1 + 1 from by omega]
      simpa [pairV] using this
def pathV (F : List (S × S)) (k : Nat) : List Value := (F.take k).map fun p => strV p.1
theorem pathV_next (F : List (S × S)) (k : Nat) (hk : k < F.length) : pathV F (k + 1) = pathV F k ++ [strV (F.getD k ([], [])).1] := by
  rw [pathV, List.take_succ_eq_append_getElem hk, List.map_append]
  simp [pathV, List.getD, List.getElem?_eq_getElem hk]

set_option maxRecDepth 8000 in
set_option maxHeartbeats 400000 in
theorem paths_any (F : List (S × S)) (hF : F.length ≤ 30) (hl : ∀ p ∈ F, p.1.length ≤ 2000) (base : Nat) (v : Value) (w : World) (h : w.ownsRow base 102 2 v F.length (F.flatMap pairV)) :
    Calls Tryz.prog 20 #[v] w fun e w' => ∃ o, e = .returned o ∧ w'.ownsRow w.heap.size 9 1 o F.length (pathV F F.length) ∧ Below w.heap.size w w' := by
  obtain ⟨i0, hi, hz0, hz1, hz2⟩ := info_three info_str
  obtain ⟨ao, c, rfl⟩ := slice_form h
  have hcell : ∀ k, k < F.length → ∃ g, ao = some ⟨g, 0, none⟩ ∧ g < w.heap.size ∧ w.cell? ⟨g, 2 * k, none⟩ = some (strV (F.getD k ([], [])).1) ∧ w.cell? ⟨g, 2 * k + 1, none⟩ = some (strV (F.getD k ([], [])).2) := by
    intro k hk
    obtain ⟨g, cap, hv⟩ := own_form h (by omega)
    cases hv
    have hp := pair_at F k hk
    exact ⟨g, rfl, (h.lt g rfl).2, by rw [h.cellAt _ (by omega)]; exact hp.1, by rw [h.cellAt _ (by omega)]; exact hp.2⟩
  have HC := hide hcell
  clear h hcell
  go_enter Tryz.func20, Tryz.ntmps20
  go_wp2_with fail
  go_loopw [3, 8] (fun o i wr => ∃ (k : Nat) (oo : Option Addr) (oc : Nat), k ≤ F.length ∧ i = .int .i64 k ∧ o = .slice oo k oc ∧ wr.ownsRow w.heap.size 9 1 o k (pathV F k) ∧ Below w.heap.size w wr)
    (fun _ i _ => F.length - (intOf i).toNat)
  case atStart => exact ⟨0, none, 0, by omega, rfl, rfl, World.ownsRow_nil _ _ _ _, Below.refl _ _⟩
  case round =>
    obtain ⟨k, oo, oc, hk, rfl, rfl, hown, hbel⟩ := hrel
    have hsize := hbel.size
    by_cases hlt : k < F.length
    · obtain ⟨g, rfl, hg, c1, c2⟩ := HC.out k hlt
      have b1 : (k : Int) < (F.length : Int) := by omega
      obtain ⟨p, hp⟩ : ∃ p, F.getD k ([], []) = p := ⟨_, rfl⟩
      have hpl : p.1.length ≤ 2000 := by rw [← hp, List.getD, List.getElem?_eq_getElem hlt]; exact hl _ (List.getElem_mem hlt)
      rw [hp] at c1 c2
      obtain ⟨p1, p2⟩ := p
      have d1 : wr.cell? ⟨g, k * 2, none⟩ = some (.string ⟨p1.toArray⟩) := by rw [Nat.mul_comm]; exact (hbel.cell (p := ⟨g, 2 * k, none⟩) hg).trans c1
      have d2 : wr.cell? ⟨g, k * 2 + 1, none⟩ = some (.string ⟨p2.toArray⟩) := by rw [Nat.mul_comm]; exact (hbel.cell (p := ⟨g, 2 * k + 1, none⟩) hg).trans c2
      have HP := hide hp
      clear c1 c2 hp
      go_wp2_with (first
        | (go_at_call 19; refine (clone_any p1 hpl _).mono ?_; rintro e w1 ⟨rfl, hb1⟩; have hown1 := own_below (hown.alloc _) hb1; have hbel1 := (hbel.alloc hsize _).trans (hb1.mono (by simp; omega)); have hs1 := hbel1.size)
        | (at_builtin; refine wpList_append_own _ rfl _ _ 30 rfl w.heap.size 9 i0 (.string ByteArray.empty) 1 16 Tryz.underlying30 hi hz0 hz1 hz2 rfl (by decide) _ _ _ rfl (hown1.alloc _) ⟨w1.heap.size, 0, none⟩ 1 1 [.string ⟨p1.toArray⟩] rfl rfl (cell_one_new _ _ _) (fun x hx => by simp at hx; subst hx; rfl) (by unfold maxLen; omega) (by omega) (by simp; omega) ?_; intro v' w3 hown' hgrow3 hnil3))
      go_roundw
      case rel =>
        obtain ⟨g3, c3, hv3⟩ := own_form hown' (by omega)
        refine ⟨k + 1, some ⟨g3, 0, none⟩, c3, by omega, by go_num, hv3, ?_, (hbel1.alloc hs1 _).grown hgrow3 (by simp; omega) (fun q hq => (hown.lt q hq).1)⟩
        rw [pathV_next F k hlt, HP.out]; exact hown'
      case measure => simp [intOf]; omega
    · obtain rfl : k = F.length := by omega
      go_wp2_with fail
      go_ret
      exact ⟨_, rfl, hown, hbel⟩
end Go.Proofs.YtgdmgmklncmanaaGreatDoor
