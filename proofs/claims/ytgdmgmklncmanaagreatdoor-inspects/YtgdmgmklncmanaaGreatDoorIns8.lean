/- Of Ins: DigW2, DigW3, DigW4, DigW5. -/
import Derived.Test.YtgdmgmklncmanaaGreatDoorIns7
import Derived.Deep.QuietTactic
import Derived.BigQuiet
import Derived.Laws.Tables
import Derived.Laws.CopyOwn
import Derived.BigRegion
import Derived.Deep.RegionWith
import Derived.Deep.RegionHeld3
/- The walk over one block's rounds. -/
namespace Go.Proofs.YtgdmgmklncmanaaGreatDoor
open Go.RowKit

/-- Choice and majority, a round, the rounds. -/
def chs (e f g : Int) : Int := bits BinOp.xor IntKind.u32 (bits BinOp.and IntKind.u32 e f) (bits BinOp.and IntKind.u32 (bits BinOp.xor IntKind.u32 (if IntKind.u32.signed = true then -1 else IntKind.u32.max) e) g)
def mjs (a b c : Int) : Int := bits BinOp.xor IntKind.u32 (bits BinOp.xor IntKind.u32 (bits BinOp.and IntKind.u32 a b) (bits BinOp.and IntKind.u32 a c)) (bits BinOp.and IntKind.u32 b c)
structure R8 where
  (a b c d e f g h : Int)
def R8.t1 (r : R8) (k x : Int) : Int := (r.h + sB1 r.e + chs r.e r.f r.g + k + x) % 4294967296
def R8.t2 (r : R8) : Int := (sB0 r.a + mjs r.a r.b r.c) % 4294967296
def R8.next (r : R8) (k x : Int) : R8 := ⟨(r.t1 k x + r.t2) % 4294967296, r.a, r.b, r.c, (r.d + r.t1 k x) % 4294967296, r.e, r.f, r.g⟩
def rounds (r : R8) (F K : Nat → Int) : Nat → R8
  | 0 => r
  | n + 1 => (rounds r F K n).next (K n) (F n)
def R8.plus (r s : R8) : R8 := ⟨(r.a + s.a) % 4294967296, (r.b + s.b) % 4294967296, (r.c + s.c) % 4294967296, (r.d + s.d) % 4294967296, (r.e + s.e) % 4294967296, (r.f + s.f) % 4294967296, (r.g + s.g) % 4294967296, (r.h + s.h) % 4294967296⟩
def R8.vals (r : R8) : Array Value := #[.int .u32 r.a, .int .u32 r.b, .int .u32 r.c, .int .u32 r.d, .int .u32 r.e, .int .u32 r.f, .int .u32 r.g, .int .u32 r.h]

/-- What the rounds read: the state's cells, the words, the table; and the room for what comes back. -/
structure MixIn (B : Nat) (s0 s1 s2 s3 s4 s5 s6 s7 : Int) (F K : Nat → Int) (w wr : World) : Prop where
  c0 : wr.cell? ⟨B, 0, none⟩ = some (.int .u32 s0)
  c1 : wr.cell? ⟨B, 1, none⟩ = some (.int .u32 s1)
  c2 : wr.cell? ⟨B, 2, none⟩ = some (.int .u32 s2)
  c3 : wr.cell? ⟨B, 3, none⟩ = some (.int .u32 s3)
  c4 : wr.cell? ⟨B, 4, none⟩ = some (.int .u32 s4)
  c5 : wr.cell? ⟨B, 5, none⟩ = some (.int .u32 s5)
  c6 : wr.cell? ⟨B, 6, none⟩ = some (.int .u32 s6)
  c7 : wr.cell? ⟨B, 7, none⟩ = some (.int .u32 s7)
  cw : ∀ i : Nat, i < 64 → wr.cell? ⟨B + 1, i, none⟩ = some (.int .u32 (F i))
  ck : ∀ i : Nat, i < 64 → wr.cell? ⟨3, i, none⟩ = some (.int .u32 (K i))
  room : wr.heap[B + 1 + 1]? = some (.cells #[.int .u32 0, .int .u32 0, .int .u32 0, .int .u32 0, .int .u32 0, .int .u32 0, .int .u32 0, .int .u32 0] 175 (0, 0))
  bel : Below w.heap.size w wr

theorem alloc3 (w : World) (a b c : Obj) : (((w.alloc a).alloc b).alloc c).heap[w.heap.size]? = some a ∧ (((w.alloc a).alloc b).alloc c).heap[w.heap.size + 1]? = some b ∧ (((w.alloc a).alloc b).alloc c).heap[w.heap.size + 1 + 1]? = some c ∧ Below w.heap.size w (((w.alloc a).alloc b).alloc c) := by
  have e1 : (w.alloc a).heap.size = w.heap.size + 1 := by simp
  have e2 : ((w.alloc a).alloc b).heap.size = w.heap.size + 1 + 1 := by simp
  refine ⟨?_, ?_, ?_, ?_⟩
  · rw [Below.heap_alloc _ _ _ (by omega), Below.heap_alloc _ _ _ (by omega), heap_alloc_new]
  · rw [Below.heap_alloc _ _ _ (by omega), ← e1, heap_alloc_new]
  · rw [← e2, heap_alloc_new]
  · exact (((Below.refl _ w).alloc (Nat.le_refl _) a).alloc (by omega) b).alloc (by omega) c
theorem row_cell {w : World} {b : Nat} {cs : Array Value} {t : TypeId} (h : w.heap[b]? = some (.cells cs t (0, 0))) (j : Nat) : w.cell? ⟨b, j, none⟩ = cs[j]? := by simp [World.cell?, h]
theorem row_free {w : World} {b : Nat} {cs : Array Value} {t : TypeId} (h : w.heap[b]? = some (.cells cs t (0, 0))) (j : Nat) : w.frozen? ⟨b, j, none⟩ = false := by simp [World.frozen?, h]
theorem MixIn.drewN {B : Nat} {s0 s1 s2 s3 s4 s5 s6 s7 : Int} {F K : Nat → Int} {w wr : World} (h : MixIn B s0 s1 s2 s3 s4 s5 s6 s7 F K w wr) (n : Nat) : MixIn B s0 s1 s2 s3 s4 s5 s6 s7 F K w (wr.drewN n) :=
  ⟨h.c0, h.c1, h.c2, h.c3, h.c4, h.c5, h.c6, h.c7, h.cw, h.ck, h.room, below_drewN h.bel n⟩

set_option maxRecDepth 100000 in
set_option maxHeartbeats 2000000 in
theorem mix_any (s0 s1 s2 s3 s4 s5 s6 s7 : Int) (W : Array Value) (F K : Nat → Int) (hW : ∀ i, i < 64 → W[i]? = some (.int .u32 (F i))) (w : World)
    (hg : 3 < w.heap.size)
    (hK : ∀ i : Nat, i < 64 → w.cell? ⟨3, i, none⟩ = some (.int .u32 (K i))) :
    Calls Tryz.prog 136 #[.agg #[.int .u32 s0, .int .u32 s1, .int .u32 s2, .int .u32 s3, .int .u32 s4, .int .u32 s5, .int .u32 s6, .int .u32 s7], .agg W] w fun e w' => e = .returned (.agg (R8.plus ⟨s0, s1, s2, s3, s4, s5, s6, s7⟩ (rounds ⟨s0, s1, s2, s3, s4, s5, s6, s7⟩ F K 64)).vals) ∧ Below w.heap.size w w' := by
  go_enter Tryz.func136, Tryz.ntmps136
  go_wp2_with fail
  generalize hwb : World.alloc (World.alloc (World.alloc w (.cells #[.int .u32 s0, .int .u32 s1, .int .u32 s2, .int .u32 s3, .int .u32 s4, .int .u32 s5, .int .u32 s6, .int .u32 s7] 175)) (.cells W 178))
    (.cells #[.int .u32 0, .int .u32 0, .int .u32 0, .int .u32 0, .int .u32 0, .int .u32 0, .int .u32 0, .int .u32 0] 175) = wb
  obtain ⟨B, hB⟩ : ∃ B, w.heap.size = B := ⟨_, rfl⟩
  have hM : MixIn B s0 s1 s2 s3 s4 s5 s6 s7 F K w wb := by
    subst hB hwb
    obtain ⟨h0, h1, h2, h3⟩ := alloc3 w (.cells #[.int .u32 s0, .int .u32 s1, .int .u32 s2, .int .u32 s3, .int .u32 s4, .int .u32 s5, .int .u32 s6, .int .u32 s7] 175) (.cells W 178)
      (.cells #[.int .u32 0, .int .u32 0, .int .u32 0, .int .u32 0, .int .u32 0, .int .u32 0, .int .u32 0, .int .u32 0] 175)
    exact ⟨row_cell h0 0, row_cell h0 1, row_cell h0 2, row_cell h0 3, row_cell h0 4, row_cell h0 5, row_cell h0 6, row_cell h0 7, fun i hi => (row_cell h1 i).trans (hW i hi), fun i hi => (h3.cell (p := ⟨3, i, none⟩) hg).trans (hK i hi), h2, h3⟩
  rw [hB]
  clear hwb
  obtain ⟨k0, k1, k2, k3, k4, k5, k6, k7, -, -, -, -⟩ := id hM
  have HM := hide hM
  clear hM
  go_quiet (fail)
  go_wp2_with fail
  go_loopw [5, 6, 7, 8, 9, 10, 11, 12, 32] (fun a b c d e f g h i wr => ∃ (k : Nat) (r : R8), k ≤ 64 ∧ i = .int .i64 k ∧ a = .int .u32 r.a ∧ b = .int .u32 r.b ∧ c = .int .u32 r.c ∧ d = .int .u32 r.d ∧ e = .int .u32 r.e ∧ f = .int .u32 r.f ∧ g = .int .u32 r.g ∧ h = .int .u32 r.h ∧ Hid (r = rounds ⟨s0, s1, s2, s3, s4, s5, s6, s7⟩ F K k) ∧ Hid (MixIn B s0 s1 s2 s3 s4 s5 s6 s7 F K w wr))
    (fun _ _ _ _ _ _ _ _ i _ => 64 - (intOf i).toNat)
  case atStart => exact ⟨0, ⟨s0, s1, s2, s3, s4, s5, s6, s7⟩, by omega, rfl, rfl, rfl, rfl, rfl, rfl, rfl, rfl, rfl, hide rfl, hide (HM.out.drewN _)⟩
  case round =>
    obtain ⟨k, ⟨a', b', c', d', e', f', g', h'⟩, hk, rfl, rfl, rfl, rfl, rfl, rfl, rfl, rfl, rfl, HR, HW⟩ := hrel
    by_cases hlt : k < 64
    · have xw := HW.out.cw k hlt
      have xk := HW.out.ck k hlt
      have b64 : (k : Int) < 64 := by omega
      go_wp2_with fail
      go_quiet (first | (go_at_call 146; refine Calls.quiet_of_same (bigSigma1_any _ _)))
      go_wp2_with (go_at_call 147; refine (bigSigma0_any _ _).mono ?_; rintro e w' ⟨rfl, rfl⟩)
      go_roundw
      case rel =>
        refine ⟨k + 1, R8.next ⟨a', b', c', d', e', f', g', h'⟩ (K k) (F k), by omega, by go_num, rfl, rfl, rfl, rfl, rfl, rfl, rfl, rfl, hide ?_, hide (HW.out.drewN _)⟩
        rw [rounds, ← HR.out]
      case measure => simp [intOf]; omega
    · obtain rfl : k = 64 := by omega
      obtain ⟨k0, k1, k2, k3, k4, k5, k6, k7, -, -, kr, -⟩ := id HW.out
      have r0 := (row_cell kr 0).trans (show _ = some (.int .u32 0) from rfl)
      have r1 := (row_cell kr 1).trans (show _ = some (.int .u32 0) from rfl)
      have r2 := (row_cell kr 2).trans (show _ = some (.int .u32 0) from rfl)
      have r3 := (row_cell kr 3).trans (show _ = some (.int .u32 0) from rfl)
      have r4 := (row_cell kr 4).trans (show _ = some (.int .u32 0) from rfl)
      have r5 := (row_cell kr 5).trans (show _ = some (.int .u32 0) from rfl)
      have r6 := (row_cell kr 6).trans (show _ = some (.int .u32 0) from rfl)
      have r7 := (row_cell kr 7).trans (show _ = some (.int .u32 0) from rfl)
      have f0 := row_free kr 0
      have f1 := row_free kr 1
      have f2 := row_free kr 2
      have f3 := row_free kr 3
      have f4 := row_free kr 4
      have f5 := row_free kr 5
      have f6 := row_free kr 6
      have f7 := row_free kr 7
      clear kr
      have hb := HW.out.bel
      go_wp2_with fail
      have g0 := heap_setCell_same _ (B + 1 + 1) 0 _ _ (.int .u32 ((s0 + a') % 4294967296)) HW.out.room
      have g1 := heap_setCell_same _ (B + 1 + 1) 1 _ _ (.int .u32 ((s1 + b') % 4294967296)) g0
      have g2 := heap_setCell_same _ (B + 1 + 1) 2 _ _ (.int .u32 ((s2 + c') % 4294967296)) g1
      have g3 := heap_setCell_same _ (B + 1 + 1) 3 _ _ (.int .u32 ((s3 + d') % 4294967296)) g2
      have g4 := heap_setCell_same _ (B + 1 + 1) 4 _ _ (.int .u32 ((s4 + e') % 4294967296)) g3
      have g5 := heap_setCell_same _ (B + 1 + 1) 5 _ _ (.int .u32 ((s5 + f') % 4294967296)) g4
      have g6 := heap_setCell_same _ (B + 1 + 1) 6 _ _ (.int .u32 ((s6 + g') % 4294967296)) g5
      have g7 := heap_setCell_same _ (B + 1 + 1) 7 _ _ (.int .u32 ((s7 + h') % 4294967296)) g6
      have q : w.heap.size ≤ B + 1 + 1 := by omega
      have hb8 := (((((((hb.setCell (p := ⟨B + 1 + 1, 0, none⟩) q (.int .u32 ((s0 + a') % 4294967296))).setCell (p := ⟨B + 1 + 1, 1, none⟩) q (.int .u32 ((s1 + b') % 4294967296))).setCell (p := ⟨B + 1 + 1, 2, none⟩) q (.int .u32 ((s2 + c') % 4294967296))).setCell (p := ⟨B + 1 + 1, 3, none⟩) q (.int .u32 ((s3 + d') % 4294967296))).setCell (p := ⟨B + 1 + 1, 4, none⟩) q (.int .u32 ((s4 + e') % 4294967296))).setCell (p := ⟨B + 1 + 1, 5, none⟩) q (.int .u32 ((s5 + f') % 4294967296))).setCell (p := ⟨B + 1 + 1, 6, none⟩) q (.int .u32 ((s6 + g') % 4294967296))).setCell (p := ⟨B + 1 + 1, 7, none⟩) q (.int .u32 ((s7 + h') % 4294967296))
      have g8 := g7.trans (show _ = some (.cells (R8.plus ⟨s0, s1, s2, s3, s4, s5, s6, s7⟩ ⟨a', b', c', d', e', f', g', h'⟩).vals 175 (0, 0)) from rfl)
      refine bodyPost_ret (results_cell_row rfl _ _ (B + 1 + 1) _ _ (0, 0) _ rfl g8 Tryz.underlying175 rfl (by kernel_rfl)) rfl ⟨?_, hb8⟩
      rw [← HR.out]
end Go.Proofs.YtgdmgmklncmanaaGreatDoor
/- The walk over a digest's bytes. -/
namespace Go.Proofs.YtgdmgmklncmanaaGreatDoor
open Go.RowKit

def R8.nth (r : R8) : Nat → Int
  | 0 => r.a | 1 => r.b | 2 => r.c | 3 => r.d | 4 => r.e | 5 => r.f | 6 => r.g | _ => r.h
/-- The k-th byte of a digest. -/
def byteAt (r : R8) (k : Nat) : Int := r.nth (k / 4) / 2 ^ (24 - k % 4 * 8) % 256
/-- The row behind k rounds. -/
def sumTo (r : R8) : Nat → Array Value
  | 0 => Array.replicate 32 (.int .u8 0)
  | k + 1 => (sumTo r k).setIfInBounds k (.int .u8 (byteAt r k))
theorem sumTo_size (r : R8) : ∀ k, (sumTo r k).size = 32
  | 0 => by simp [sumTo]
  | k + 1 => by rw [sumTo, Array.size_setIfInBounds, sumTo_size r k]

theorem sumTo_one (r : R8) : ∀ k, ∀ v ∈ (sumTo r k), v.oneCell' = true
  | 0, v, h => by
    simp [sumTo] at h; subst h; rfl
  | k + 1, v, h => by
    rw [sumTo] at h
    rcases Array.mem_or_eq_of_mem_setIfInBounds h with h | rfl
    · exact sumTo_one r k v h
    · rfl
theorem sumTo_info (r : R8) (k : Nat) : (Tryz.prog.info? 164).map (·.size) = some (sumTo r k).size := by rw [sumTo_size]; kernel_rfl

structure BytesIn (B : Nat) (r : R8) (k : Nat) (w wr : World) : Prop where
  st : wr.heap[B]? = some (.cells r.vals 175 (0, 0))
  out : wr.heap[B + 1]? = some (.cells (sumTo r 0) 164 (0, 0))
  sum : wr.heap[B + 1 + 1]? = some (.cells (sumTo r k) 164 (0, 0))
  bel : Below w.heap.size w wr

set_option maxRecDepth 100000 in
set_option maxHeartbeats 4000000 in
theorem bytes_any (r : R8) (w : World) :
    Calls Tryz.prog 138 #[.agg r.vals] w fun e w' => e = .returned (.agg (sumTo r 32)) ∧ Below w.heap.size w w' := by
  obtain ⟨s0, s1, s2, s3, s4, s5, s6, s7⟩ := r
  obtain ⟨R, hR⟩ : ∃ R : R8, (⟨s0, s1, s2, s3, s4, s5, s6, s7⟩ : R8) = R := ⟨_, rfl⟩
  show Calls Tryz.prog _ #[.agg #[.int .u32 s0, .int .u32 s1, .int .u32 s2, .int .u32 s3, .int .u32 s4, .int .u32 s5, .int .u32 s6, .int .u32 s7]] w _
  rw [hR]
  have HR := hide hR
  clear hR
  go_enter Tryz.func138, Tryz.ntmps138
  go_wp2_with fail
  go_loopw [5] (fun i wr => ∃ k : Nat, k ≤ 32 ∧ i = .int .i64 k ∧ Hid (BytesIn w.heap.size R k w wr)) (fun i _ => 32 - (intOf i).toNat)
  case atStart =>
    refine ⟨0, by omega, rfl, hide ?_⟩
    obtain ⟨h0, h1, h2, h3⟩ := alloc3 w (.cells #[.int .u32 s0, .int .u32 s1, .int .u32 s2, .int .u32 s3, .int .u32 s4, .int .u32 s5, .int .u32 s6, .int .u32 s7] 175) (.cells (sumTo R 0) 164) (.cells (sumTo R 0) 164)
    exact ⟨by rw [← HR.out]; exact h0, h1, h2, h3⟩
  case round =>
    obtain ⟨k, hk, rfl, HW⟩ := hrel
    by_cases hlt : k < 32
    · obtain ⟨old, hold⟩ : ∃ old, (sumTo R k)[k]? = some old := ⟨_, Array.getElem?_eq_getElem (by rw [sumTo_size]; exact hlt)⟩
      have rk := (row_cell HW.out.sum k).trans hold
      have fk := row_free HW.out.sum k
      clear hold
      have hst := HW.out.st
      rw [← HR.out] at hst
      have k0 := (row_cell hst 0).trans (show _ = some (.int .u32 s0) from rfl)
      have k1 := (row_cell hst 1).trans (show _ = some (.int .u32 s1) from rfl)
      have k2 := (row_cell hst 2).trans (show _ = some (.int .u32 s2) from rfl)
      have k3 := (row_cell hst 3).trans (show _ = some (.int .u32 s3) from rfl)
      have k4 := (row_cell hst 4).trans (show _ = some (.int .u32 s4) from rfl)
      have k5 := (row_cell hst 5).trans (show _ = some (.int .u32 s5) from rfl)
      have k6 := (row_cell hst 6).trans (show _ = some (.int .u32 s6) from rfl)
      have k7 := (row_cell hst 7).trans (show _ = some (.int .u32 s7) from rfl)
      clear hst
      have HN : Hid (∀ u, (.int .u8 (byteAt R k)) = u → BytesIn w.heap.size R (k + 1) w (wr.setCell ⟨w.heap.size + 1 + 1, k, none⟩ u)) := hide fun u hu => by
        subst hu
        exact ⟨(Below.heap_setCell _ _ _ _ (by simp; omega)).trans HW.out.st, (Below.heap_setCell _ _ _ _ (by simp)).trans HW.out.out, heap_setCell_same _ _ k _ _ _ HW.out.sum, HW.out.bel.setCell (p := ⟨w.heap.size + 1 + 1, k, none⟩) (by simp; omega) _⟩
      rcases (show k = 0 ∨ k = 1 ∨ k = 2 ∨ k = 3 ∨ k = 4 ∨ k = 5 ∨ k = 6 ∨ k = 7 ∨ k = 8 ∨ k = 9 ∨ k = 10 ∨ k = 11 ∨ k = 12 ∨ k = 13 ∨ k = 14 ∨ k = 15 ∨ k = 16 ∨ k = 17 ∨ k = 18 ∨ k = 19 ∨ k = 20 ∨ k = 21 ∨ k = 22 ∨ k = 23 ∨ k = 24 ∨ k = 25 ∨ k = 26 ∨ k = 27 ∨ k = 28 ∨ k = 29 ∨ k = 30 ∨ k = 31 from by omega) with rfl | rfl | rfl | rfl | rfl | rfl | rfl | rfl | rfl | rfl | rfl | rfl | rfl | rfl | rfl | rfl | rfl | rfl | rfl | rfl | rfl | rfl | rfl | rfl | rfl | rfl | rfl | rfl | rfl | rfl | rfl | rfl
      all_goals
        go_wp2_with fail
        go_roundw
        case rel => exact ⟨_, by omega, by go_num, hide (HN.out _ (by rw [← HR.out]; simp [byteAt, R8.nth]))⟩
        case measure => simp [intOf]
    · obtain rfl : k = 32 := by omega
      have h1 := HW.out.out
      have h2 := HW.out.sum
      have hb := HW.out.bel
      clear HW HR
      have h3 := setRow_heap wr (w.heap.size + 1) _ (sumTo R 32) _ _ h1
      have hb3 := below_setRow hb (g := w.heap.size + 1) (by omega) (sumTo R 32)
      have hone : (sumTo R 32).all (·.oneCell') = true := Array.all_eq_true_iff_forall_mem.2 (sumTo_one R 32)
      have HH := hide h1
      have HH2 := hide h2
      have HH3 := hide h3
      have HO := hide hone
      clear h1 h2 h3 hone
      go_wp2_with (first
        | (refine wpList_load_row rfl 164 _ rfl (w.heap.size + 1 + 1) rfl _ (sumTo R 32) (0, 0) _ HH2.out Tryz.underlying164 rfl (sumTo_info R 32) ?_)
        | (refine wpList_store_row rfl 164 _ _ rfl (w.heap.size + 1) (sumTo R 32) rfl rfl _ (sumTo R 0) HH.out (sumTo_info R 32) ((sumTo_size R 0).trans (sumTo_size R 32).symm) HO.out ?_))
      refine bodyPost_ret (results_cell_row rfl _ _ (w.heap.size + 1) _ _ (0, 0) _ rfl HH3.out Tryz.underlying164 rfl (sumTo_info R 32)) rfl ⟨rfl, hb3⟩
end Go.Proofs.YtgdmgmklncmanaaGreatDoor
/- The walk over a block's words. -/
namespace Go.Proofs.YtgdmgmklncmanaaGreatDoor
open Go.RowKit

/-- Four bytes as a word. -/
def word4 (b : Nat → Int) (k : Nat) : Int :=
  bits BinOp.or IntKind.u32 (bits BinOp.or IntKind.u32 (bits BinOp.or IntKind.u32 (b (4 * k) % 4294967296 * 16777216 % 4294967296) (b (4 * k + 1) % 4294967296 * 65536 % 4294967296)) (b (4 * k + 2) % 4294967296 * 256 % 4294967296)) (b (4 * k + 3) % 4294967296)
/-- A block's words. -/
def wf (b : Nat → Int) (n : Nat) : Int :=
  if h : n < 16 then word4 b n else (sS1 (wf b (n - 2)) + wf b (n - 7) + sS0 (wf b (n - 15)) + wf b (n - 16)) % 4294967296
def schTo (b : Nat → Int) : Nat → Array Value
  | 0 => Array.replicate 64 (.int .u32 0)
  | k + 1 => (schTo b k).setIfInBounds k (.int .u32 (wf b k))
theorem schTo_size (b : Nat → Int) : ∀ k, (schTo b k).size = 64
  | 0 => by simp [schTo]
  | k + 1 => by rw [schTo, Array.size_setIfInBounds, schTo_size b k]
theorem schTo_get (b : Nat → Int) (j : Nat) (hj : j < 64) : ∀ k, j < k → (schTo b k)[j]? = some (.int .u32 (wf b j))
  | 0, h => by omega
  | k + 1, h => by
    rw [schTo, Array.getElem?_setIfInBounds]
    by_cases e : k = j
    · subst e; simp [schTo_size, hj]
    · rw [if_neg e]; exact schTo_get b j hj k (by omega)
theorem schTo_one (b : Nat → Int) : ∀ k, ∀ v ∈ (schTo b k), v.oneCell' = true
  | 0, v, h => by
    simp [schTo] at h; subst h; rfl
  | k + 1, v, h => by
    rw [schTo] at h
    rcases Array.mem_or_eq_of_mem_setIfInBounds h with h | rfl
    · exact schTo_one b k v h
    · rfl
theorem schTo_info (b : Nat → Int) (k : Nat) : (Tryz.prog.info? 178).map (·.size) = some (schTo b k).size := by rw [schTo_size]; kernel_rfl
structure SchIn (b : Nat → Int) (k : Nat) (w wr : World) : Prop where
  out : wr.heap[w.heap.size]? = some (.cells (schTo b 0) 178 (0, 0))
  row : wr.heap[w.heap.size + 1]? = some (.cells (schTo b k) 178 (0, 0))
  bel : Below w.heap.size w wr
theorem alloc2 (w : World) (a b : Obj) : ((w.alloc a).alloc b).heap[w.heap.size]? = some a ∧ ((w.alloc a).alloc b).heap[w.heap.size + 1]? = some b ∧ Below w.heap.size w ((w.alloc a).alloc b) := by
  have e1 : (w.alloc a).heap.size = w.heap.size + 1 := by simp
  refine ⟨?_, ?_, ?_⟩
  · rw [Below.heap_alloc _ _ _ (by omega), heap_alloc_new]
  · rw [← e1, heap_alloc_new]
  · exact ((Below.refl _ w).alloc (Nat.le_refl _) a).alloc (by omega) b
theorem SchIn.next {b : Nat → Int} {k : Nat} {w wr : World} (h : SchIn b k w wr) {u : Value} (hu : u = .int .u32 (wf b k)) : SchIn b (k + 1) w (wr.setCell ⟨w.heap.size + 1, k, none⟩ u) := by
  subst hu
  exact ⟨(Below.heap_setCell _ _ _ _ (by simp)).trans h.out, heap_setCell_same _ _ k _ _ _ h.row, h.bel.setCell (p := ⟨w.heap.size + 1, k, none⟩) (by simp) _⟩
theorem SchIn.drew {b : Nat → Int} {k : Nat} {w wr : World} (h : SchIn b k w wr) : SchIn b k w wr.drew := ⟨h.out, h.row, h.bel.drew⟩
theorem wf_low {b : Nat → Int} {k : Nat} (h : k < 16) : wf b k = word4 b k := by rw [wf, dif_pos h]
theorem wf_high {b : Nat → Int} {k : Nat} (h : ¬ k < 16) : wf b k = (sS1 (wf b (k - 2)) + wf b (k - 7) + sS0 (wf b (k - 15)) + wf b (k - 16)) % 4294967296 := by
  conv => lhs; rw [wf, dif_neg h]

end Go.Proofs.YtgdmgmklncmanaaGreatDoor
/- The walk over a block's words: its two loops. -/
namespace Go.Proofs.YtgdmgmklncmanaaGreatDoor
open Go.RowKit

theorem wrap_four (a b c d : Int) : Value.int .u32 (IntKind.u32.wrap (IntKind.u32.wrap (IntKind.u32.wrap (a + b) + c) + d)) = .int .u32 ((a + b + c + d) % 4294967296) := by
  have e : ∀ x : Int, IntKind.u32.wrap x = x % 4294967296 := fun x => rfl
  rw [e, e, e]; congr 1; omega
theorem wrap_small (m : Nat) (h : m < 64) : IntKind.i64.wrap (m : Int) = (m : Int) := by
  have : ∀ m : Fin 64, IntKind.i64.wrap (m.val : Int) = (m.val : Int) := by decide
  exact this ⟨m, h⟩

set_option maxRecDepth 100000 in
set_option maxHeartbeats 4000000 in
theorem schedule_any (b : Nat → Int) (g o cap : Nat) (hcap : 64 ≤ cap) (w : World) (hg : g < w.heap.size)
    (hb : ∀ j : Nat, j < 64 → w.cell? ⟨g, o + j, none⟩ = some (.int .u8 (b j))) :
    Calls Tryz.prog 137 #[.slice (some ⟨g, o, none⟩) 64 cap] w fun e w' => e = .returned (.agg (schTo b 64)) ∧ Below w.heap.size w w' := by
  go_enter Tryz.func137, Tryz.ntmps137
  go_wp2_with fail
  go_loopw [7] (fun i wr => ∃ k : Nat, k ≤ 16 ∧ i = .int .i64 k ∧ Hid (SchIn b k w wr)) (fun i _ => 16 - (intOf i).toNat)
  case atStart =>
    obtain ⟨h0, h1, h2⟩ := alloc2 w (.cells (schTo b 0) 178) (.cells (schTo b 0) 178)
    exact ⟨0, by omega, rfl, hide ⟨h0, h1, h2⟩⟩
  case round =>
    obtain ⟨k, hk, rfl, HW⟩ := hrel
    by_cases hlt : k < 16
    · have c0 : wr.cell? ⟨g, o + 4 * k, none⟩ = some (.int .u8 (b (4 * k))) := (HW.out.bel.cell (p := ⟨g, o + 4 * k, none⟩) hg).trans (hb (4 * k) (by omega))
      have c1 : wr.cell? ⟨g, o + 4 * k + 1, none⟩ = some (.int .u8 (b (4 * k + 1))) := (HW.out.bel.cell (p := ⟨g, o + 4 * k + 1, none⟩) hg).trans (hb (4 * k + 1) (by omega))
      have c2 : wr.cell? ⟨g, o + 4 * k + 2, none⟩ = some (.int .u8 (b (4 * k + 2))) := (HW.out.bel.cell (p := ⟨g, o + 4 * k + 2, none⟩) hg).trans (hb (4 * k + 2) (by omega))
      have c3 : wr.cell? ⟨g, o + 4 * k + 3, none⟩ = some (.int .u8 (b (4 * k + 3))) := (HW.out.bel.cell (p := ⟨g, o + 4 * k + 3, none⟩) hg).trans (hb (4 * k + 3) (by omega))
      obtain ⟨old, hold⟩ : ∃ old, (schTo b k)[k]? = some old := ⟨_, Array.getElem?_eq_getElem (by rw [schTo_size]; omega)⟩
      have d0 := (row_cell HW.out.row k).trans hold
      have d1 := row_free HW.out.row k
      clear hold
      have HL := hide (wf_low (b := b) hlt)
      go_wp2_with fail
      go_region
      all_goals go_wp2_with fail
      all_goals go_roundw
      case rel => exact ⟨k + 1, by omega, by go_num, hide (HW.out.next (by rw [HL.out]; rfl)).drew⟩
      case measure => simp [intOf]; omega
    · obtain rfl : k = 16 := by omega
      go_wp2_with fail
      rw [show ((16 : Nat) : Int) = 16 from rfl]
      go_loopw [6] (fun i wr => ∃ k : Nat, 16 ≤ k ∧ k ≤ 64 ∧ i = .int .i64 k ∧ Hid (SchIn b k w wr)) (fun i _ => 64 - (intOf i).toNat)
      case atStart => exact ⟨16, by omega, by omega, rfl, HW⟩
      case round =>
        obtain ⟨k, hk1, hk2, rfl, HX⟩ := hrel
        clear HW
        by_cases hlt2 : k < 64
        · have gk : (k : Int) < 64 := by omega
          obtain ⟨m2, hm2⟩ : ∃ m, k - 2 = m := ⟨_, rfl⟩
          have z2 : (k : Int) - 2 = (m2 : Int) := by omega
          have l2 : (m2 : Int) < 64 := by omega
          have y2 : IntKind.i64.wrap (m2 : Int) = (m2 : Int) := wrap_small m2 (by omega)
          have e2 := (row_cell HX.out.row m2).trans (schTo_get b m2 (by omega) k (by omega))
          obtain ⟨m7, hm7⟩ : ∃ m, k - 7 = m := ⟨_, rfl⟩
          have z7 : (k : Int) - 7 = (m7 : Int) := by omega
          have l7 : (m7 : Int) < 64 := by omega
          have y7 : IntKind.i64.wrap (m7 : Int) = (m7 : Int) := wrap_small m7 (by omega)
          have e7 := (row_cell HX.out.row m7).trans (schTo_get b m7 (by omega) k (by omega))
          obtain ⟨m15, hm15⟩ : ∃ m, k - 15 = m := ⟨_, rfl⟩
          have z15 : (k : Int) - 15 = (m15 : Int) := by omega
          have l15 : (m15 : Int) < 64 := by omega
          have y15 : IntKind.i64.wrap (m15 : Int) = (m15 : Int) := wrap_small m15 (by omega)
          have e15 := (row_cell HX.out.row m15).trans (schTo_get b m15 (by omega) k (by omega))
          obtain ⟨m16, hm16⟩ : ∃ m, k - 16 = m := ⟨_, rfl⟩
          have z16 : (k : Int) - 16 = (m16 : Int) := by omega
          have l16 : (m16 : Int) < 64 := by omega
          have y16 : IntKind.i64.wrap (m16 : Int) = (m16 : Int) := wrap_small m16 (by omega)
          have e16 := (row_cell HX.out.row m16).trans (schTo_get b m16 (by omega) k (by omega))
          obtain ⟨old, hold⟩ : ∃ old, (schTo b k)[k]? = some old := ⟨_, Array.getElem?_eq_getElem (by rw [schTo_size]; omega)⟩
          have d0 := (row_cell HX.out.row k).trans hold
          have d1 := row_free HX.out.row k
          clear hold
          have hw := wf_high (b := b) (k := k) (by omega)
          rw [hm2, hm7, hm15, hm16] at hw
          have HL := hide hw
          clear hw hm2 hm7 hm15 hm16
          have n2 : ¬ (m2 = k) := by omega
          have n7 : ¬ (m7 = k) := by omega
          have n15 : ¬ (m15 = k) := by omega
          have n16 : ¬ (m16 = k) := by omega
          go_wp2_with fail
          go_region_held3 (fun w' => w'.cell? ⟨w.heap.size + 1, m2, none⟩ = some (.int .u32 (wf b m2)) ∧ w'.cell? ⟨w.heap.size + 1, m7, none⟩ = some (.int .u32 (wf b m7)) ∧ w'.cell? ⟨w.heap.size + 1, m15, none⟩ = some (.int .u32 (wf b m15)) ∧ w'.cell? ⟨w.heap.size + 1, m16, none⟩ = some (.int .u32 (wf b m16)))
            (first | assumption | simp [go_sem, *])
            (first
              | (go_at_call 148; refine (smallSigma1_any _ _).mono ?_; rintro e w' ⟨rfl, rfl⟩)
              | (go_at_call 149; refine (smallSigma0_any _ _).mono ?_; rintro e w' ⟨rfl, rfl⟩))
          all_goals go_wp2_with fail
          go_roundw
          case rel =>
            refine ⟨k + 1, by omega, by omega, by go_num, hide (SchIn.drew (SchIn.next HX.out ?_))⟩
            rw [HL.out]; exact wrap_four _ _ _ _
          case measure => simp [intOf]; omega
        · obtain rfl : k = 64 := by omega
          have h1 := HX.out.out
          have h2 := HX.out.row
          have hb' := HX.out.bel
          clear HX
          have h3 := setRow_heap wr w.heap.size _ (schTo b 64) _ _ h1
          have hb3 := below_setRow hb' (g := w.heap.size) (by omega) (schTo b 64)
          have hone : (schTo b 64).all (·.oneCell') = true := Array.all_eq_true_iff_forall_mem.2 (schTo_one b 64)
          have HH := hide h1
          have HH2 := hide h2
          have HH3 := hide h3
          have HO := hide hone
          clear h1 h2 h3 hone
          go_wp2_with (first
            | (refine wpList_load_row rfl 178 _ rfl (w.heap.size + 1) rfl _ (schTo b 64) (0, 0) _ HH2.out Tryz.underlying178 rfl (schTo_info b 64) ?_)
            | (refine wpList_store_row rfl 178 _ _ rfl w.heap.size (schTo b 64) rfl rfl _ (schTo b 0) HH.out (schTo_info b 64) ((schTo_size b 0).trans (schTo_size b 64).symm) HO.out ?_))
          refine bodyPost_ret (results_cell_row rfl _ _ w.heap.size _ _ (0, 0) _ rfl HH3.out Tryz.underlying178 rfl (schTo_info b 64)) rfl ⟨rfl, hb3⟩
end Go.Proofs.YtgdmgmklncmanaaGreatDoor
