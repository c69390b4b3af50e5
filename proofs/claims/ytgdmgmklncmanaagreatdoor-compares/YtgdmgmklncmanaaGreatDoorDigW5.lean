/- The walk over a block's words: its two loops. -/
import Derived.Test.YtgdmgmklncmanaaGreatDoorDigW4
import Derived.Deep.RegionHeld3
namespace Go.Proofs.YtgdmgmklncmanaaGreatDoor
open Go.RowKit

theorem wrap_four (a b c d : Int) : Value.int .u32 (IntKind.u32.wrap (IntKind.u32.wrap (IntKind.u32.wrap (a + b) + c) + d)) = .int .u32 ((a + b + c + d) % 4294967296) := by
  have e : ∀ x : Int, IntKind.u32.wrap x = x % 4294967296 := fun x => rfl
  rw [e, e, e]; congr 1; omega
theorem wrap_small (m : Nat) (h : m < 64) : IntKind.i64.wrap (m : Int) = (m : Int) := by
  have : ∀ m : Fin 64, IntKind.i64.wrap (m.val : Int) = (m.val : Int) := by decide
  exact this ⟨m, h⟩

set_option maxRecDepth 100000 in
set_option maxHeartbeats 4000000 in
theorem schedule_any (b : Nat → Int) (g o cap : Nat) (hcap : 64 ≤ cap) (w : World) (hg : g < w.heap.size)
    (hb : ∀ j : Nat, j < 64 → w.cell? ⟨g, o + j, none⟩ = some (.int .u8 (b j))) :
    Calls Tryz.prog 137 #[.slice (some ⟨g, o, none⟩) 64 cap] w fun e w' => e = .returned (.agg (schTo b 64)) ∧ Below w.heap.size w w' := by
  go_enter Tryz.func137, Tryz.ntmps137
  go_wp2_with fail
  go_loopw [7] (fun i wr => ∃ k : Nat, k ≤ 16 ∧ i = .int .i64 k ∧ Hid (SchIn b k w wr)) (fun i _ => 16 - (intOf i).toNat)
  case atStart =>
    obtain ⟨h0, h1, h2⟩ := alloc2 w (.cells (schTo b 0) 178) (.cells (schTo b 0) 178)
    exact ⟨0, by omega, rfl, hide ⟨h0, h1, h2⟩⟩
  case round =>
    obtain ⟨k, hk, rfl, HW⟩ := hrel
    by_cases hlt : k < 16
    · have c0 : wr.cell? ⟨g, o + 4 * k, none⟩ = some (.int .u8 (b (4 * k))) := (HW.out.bel.cell (p := ⟨g, o + 4 * k, none⟩) hg).trans (hb (4 * k) (by omega))
      have c1 : wr.cell? ⟨g, o + 4 * k + 1, none⟩ = some (.int .u8 (b (4 * k + 1))) := (HW.out.bel.cell (p := ⟨g, o + 4 * k + 1, none⟩) hg).trans (hb (4 * k + 1) (by omega))
      have c2 : wr.cell? ⟨g, o + 4 * k + 2, none⟩ = some (.int .u8 (b (4 * k + 2))) := (HW.out.bel.cell (p := ⟨g, o + 4 * k + 2, none⟩) hg).trans (hb (4 * k + 2) (by omega))
      have c3 : wr.cell? ⟨g, o + 4 * k + 3, none⟩ = some (.int .u8 (b (4 * k + 3))) := (HW.out.bel.cell (p := ⟨g, o + 4 * k + 3, none⟩) hg).trans (hb (4 * k + 3) (by omega))
      obtain ⟨old, hold⟩ : ∃ old, (schTo b k)[k]? = some old := ⟨_, Array.getElem?_eq_getElem (by rw [schTo_size]; omega)⟩
      have d0 := (row_cell HW.out.row k).trans hold
      have d1 := row_free HW.out.row k
      clear hold
      have HL := hide (wf_low (b := b) hlt)
      go_wp2_with fail
      go_region
      all_goals go_wp2_with fail
      all_goals go_roundw
      case rel => exact ⟨k + 1, by omega, by go_num, hide (HW.out.next (by rw [HL.out]; rfl)).drew⟩
      case measure => simp [intOf]; omega
    · obtain rfl : k = 16 := by omega
      go_wp2_with fail
      rw [show ((16 : Nat) : Int) = 16 from rfl]
      go_loopw [6] (fun i wr => ∃ k : Nat, 16 ≤ k ∧ k ≤ 64 ∧ i = .int .i64 k ∧ Hid (SchIn b k w wr)) (fun i _ => 64 - (intOf i).toNat)
      case atStart => exact ⟨16, by omega, by omega, rfl, HW⟩
      case round =>
        obtain ⟨k, hk1, hk2, rfl, HX⟩ := hrel
        clear HW
        by_cases hlt2 : k < 64
        · have gk : (k : Int) < 64 := by omega
          obtain ⟨m2, hm2⟩ : ∃ m, k - 2 = m := ⟨_, rfl⟩
          have z2 : (k : Int) - 2 = (m2 : Int) := by omega
          have l2 : (m2 : Int) < 64 := by omega
          have y2 : IntKind.i64.wrap (m2 : Int) = (m2 : Int) := wrap_small m2 (by omega)
          have e2 := (row_cell HX.out.row m2).trans (schTo_get b m2 (by omega) k (by omega))
          obtain ⟨m7, hm7⟩ : ∃ m, k - 7 = m := ⟨_, rfl⟩
          have z7 : (k : Int) - 7 = (m7 : Int) := by omega
          have l7 : (m7 : Int) < 64 := by omega
          have y7 : IntKind.i64.wrap (m7 : Int) = (m7 : Int) := wrap_small m7 (by omega)
          have e7 := (row_cell HX.out.row m7).trans (schTo_get b m7 (by omega) k (by omega))
          obtain ⟨m15, hm15⟩ : ∃ m, k - 15 = m := ⟨_, rfl⟩
          have z15 : (k : Int) - 15 = (m15 : Int) := by omega
          have l15 : (m15 : Int) < 64 := by omega
          have y15 : IntKind.i64.wrap (m15 : Int) = (m15 : Int) := wrap_small m15 (by omega)
          have e15 := (row_cell HX.out.row m15).trans (schTo_get b m15 (by omega) k (by omega))
          obtain ⟨m16, hm16⟩ : ∃ m, k - 16 = m := ⟨_, rfl⟩
          have z16 : (k : Int) - 16 = (m16 : Int) := by omega
          have l16 : (m16 : Int) < 64 := by omega
          have y16 : IntKind.i64.wrap (m16 : Int) = (m16 : Int) := wrap_small m16 (by omega)
          have e16 := (row_cell HX.out.row m16).trans (schTo_get b m16 (by omega) k (by omega))
          obtain ⟨old, hold⟩ : ∃ old, (schTo b k)[k]? = some old := ⟨_, Array.getElem?_eq_getElem (by rw [schTo_size]; omega)⟩
          have d0 := (row_cell HX.out.row k).trans hold
          have d1 := row_free HX.out.row k
          clear hold
          have hw := wf_high (b := b) (k := k) (by omega)
          rw [hm2, hm7, hm15, hm16] at hw
          have HL := hide hw
          clear hw hm2 hm7 hm15 hm16
          have n2 : ¬ (m2 = k) := by omega
          have n7 : ¬ (m7 = k) := by omega
          have n15 : ¬ (m15 = k) := by omega
          have n16 : ¬ (m16 = k) := by omega
          go_wp2_with fail
          go_region_held3 (fun w' => w'.cell? ⟨w.heap.size + 1, m2, none⟩ = some (.int .u32 (wf b m2)) ∧ w'.cell? ⟨w.heap.size + 1, m7, none⟩ = some (.int .u32 (wf b m7)) ∧ w'.cell? ⟨w.heap.size + 1, m15, none⟩ = some (.int .u32 (wf b m15)) ∧ w'.cell? ⟨w.heap.size + 1, m16, none⟩ = some (.int .u32 (wf b m16)))
            (first | assumption | simp [go_sem, *])
            (first
              | (go_at_call 148; refine (smallSigma1_any _ _).mono ?_; rintro e w' ⟨rfl, rfl⟩)
              | (go_at_call 149; refine (smallSigma0_any _ _).mono ?_; rintro e w' ⟨rfl, rfl⟩))
          all_goals go_wp2_with fail
          go_roundw
          case rel =>
            refine ⟨k + 1, by omega, by omega, by go_num, hide (SchIn.drew (SchIn.next HX.out ?_))⟩
            rw [HL.out]; exact wrap_four _ _ _ _
          case measure => simp [intOf]; omega
        · obtain rfl : k = 64 := by omega
          have h1 := HX.out.out
          have h2 := HX.out.row
          have hb' := HX.out.bel
          clear HX
          have h3 := setRow_heap wr w.heap.size _ (schTo b 64) _ _ h1
          have hb3 := below_setRow hb' (g := w.heap.size) (by omega) (schTo b 64)
          have hone : (schTo b 64).all (·.oneCell') = true := Array.all_eq_true_iff_forall_mem.2 (schTo_one b 64)
          have HH := hide h1
          have HH2 := hide h2
          have HH3 := hide h3
          have HO := hide hone
          clear h1 h2 h3 hone
          go_wp2_with (first
            | (refine wpList_load_row rfl 178 _ rfl (w.heap.size + 1) rfl _ (schTo b 64) (0, 0) _ HH2.out Tryz.underlying178 rfl (schTo_info b 64) ?_)
            | (refine wpList_store_row rfl 178 _ _ rfl w.heap.size (schTo b 64) rfl rfl _ (schTo b 0) HH.out (schTo_info b 64) ((schTo_size b 0).trans (schTo_size b 64).symm) HO.out ?_))
          refine bodyPost_ret (results_cell_row rfl _ _ w.heap.size _ _ (0, 0) _ rfl HH3.out Tryz.underlying178 rfl (schTo_info b 64)) rfl ⟨rfl, hb3⟩
end Go.Proofs.YtgdmgmklncmanaaGreatDoor
