/- The walk over one block's rounds. -/
import Derived.Test.YtgdmgmklncmanaaGreatDoorDigW1
import Derived.Deep.QuietTactic
import Derived.BigQuiet
namespace Go.Proofs.YtgdmgmklncmanaaGreatDoor
open Go.RowKit

/-- Choice and majority, a round, the rounds. -/
def chs (e f g : Int) : Int := bits BinOp.xor IntKind.u32 (bits BinOp.and IntKind.u32 e f) (bits BinOp.and IntKind.u32 (bits BinOp.xor IntKind.u32 (if IntKind.u32.signed = true then -1 else IntKind.u32.max) e) g)
def mjs (a b c : Int) : Int := bits BinOp.xor IntKind.u32 (bits BinOp.xor IntKind.u32 (bits BinOp.and IntKind.u32 a b) (bits BinOp.and IntKind.u32 a c)) (bits BinOp.and IntKind.u32 b c)
structure R8 where
  (a b c d e f g h : Int)
def R8.t1 (r : R8) (k x : Int) : Int := (r.h + sB1 r.e + chs r.e r.f r.g + k + x) % 4294967296
def R8.t2 (r : R8) : Int := (sB0 r.a + mjs r.a r.b r.c) % 4294967296
def R8.next (r : R8) (k x : Int) : R8 := ⟨(r.t1 k x + r.t2) % 4294967296, r.a, r.b, r.c, (r.d + r.t1 k x) % 4294967296, r.e, r.f, r.g⟩
def rounds (r : R8) (F K : Nat → Int) : Nat → R8
  | 0 => r
  | n + 1 => (rounds r F K n).next (K n) (F n)
def R8.plus (r s : R8) : R8 := ⟨(r.a + s.a) % 4294967296, (r.b + s.b) % 4294967296, (r.c + s.c) % 4294967296, (r.d + s.d) % 4294967296, (r.e + s.e) % 4294967296, (r.f + s.f) % 4294967296, (r.g + s.g) % 4294967296, (r.h + s.h) % 4294967296⟩
def R8.vals (r : R8) : Array Value := #[.int .u32 r.a, .int .u32 r.b, .int .u32 r.c, .int .u32 r.d, .int .u32 r.e, .int .u32 r.f, .int .u32 r.g, .int .u32 r.h]

/-- What the rounds read: the state's cells, the words, the table; and the room for what comes back. -/
structure MixIn (B : Nat) (s0 s1 s2 s3 s4 s5 s6 s7 : Int) (F K : Nat → Int) (w wr : World) : Prop where
  c0 : wr.cell? ⟨B, 0, none⟩ = some (.int .u32 s0)
  c1 : wr.cell? ⟨B, 1, none⟩ = some (.int .u32 s1)
  c2 : wr.cell? ⟨B, 2, none⟩ = some (.int .u32 s2)
  c3 : wr.cell? ⟨B, 3, none⟩ = some (.int .u32 s3)
  c4 : wr.cell? ⟨B, 4, none⟩ = some (.int .u32 s4)
  c5 : wr.cell? ⟨B, 5, none⟩ = some (.int .u32 s5)
  c6 : wr.cell? ⟨B, 6, none⟩ = some (.int .u32 s6)
  c7 : wr.cell? ⟨B, 7, none⟩ = some (.int .u32 s7)
  cw : ∀ i : Nat, i < 64 → wr.cell? ⟨B + 1, i, none⟩ = some (.int .u32 (F i))
  ck : ∀ i : Nat, i < 64 → wr.cell? ⟨3, i, none⟩ = some (.int .u32 (K i))
  room : wr.heap[B + 1 + 1]? = some (.cells #[.int .u32 0, .int .u32 0, .int .u32 0, .int .u32 0, .int .u32 0, .int .u32 0, .int .u32 0, .int .u32 0] 175 (0, 0))
  bel : Below w.heap.size w wr

theorem alloc3 (w : World) (a b c : Obj) : (((w.alloc a).alloc b).alloc c).heap[w.heap.size]? = some a ∧ (((w.alloc a).alloc b).alloc c).heap[w.heap.size + 1]? = some b ∧ (((w.alloc a).alloc b).alloc c).heap[w.heap.size + 1 + 1]? = some c ∧ Below w.heap.size w (((w.alloc a).alloc b).alloc c) := by
  have e1 : (w.alloc a).heap.size = w.heap.size + 1 := by simp
  have e2 : ((w.alloc a).alloc b).heap.size = w.heap.size + 1 + 1 := by simp
  refine ⟨?_, ?_, ?_, ?_⟩
  · rw [Below.heap_alloc _ _ _ (by omega), Below.heap_alloc _ _ _ (by omega), heap_alloc_new]
  · rw [Below.heap_alloc _ _ _ (by omega), ← e1, heap_alloc_new]
  · rw [← e2, heap_alloc_new]
  · exact (((Below.refl _ w).alloc (Nat.le_refl _) a).alloc (by omega) b).alloc (by omega) c
theorem row_cell {w : World} {b : Nat} {cs : Array Value} {t : TypeId} (h : w.heap[b]? = some (.cells cs t (0, 0))) (j : Nat) : w.cell? ⟨b, j, none⟩ = cs[j]? := by simp [World.cell?, h]
theorem row_free {w : World} {b : Nat} {cs : Array Value} {t : TypeId} (h : w.heap[b]? = some (.cells cs t (0, 0))) (j : Nat) : w.frozen? ⟨b, j, none⟩ = false := by simp [World.frozen?, h]
theorem MixIn.drewN {B : Nat} {s0 s1 s2 s3 s4 s5 s6 s7 : Int} {F K : Nat → Int} {w wr : World} (h : MixIn B s0 s1 s2 s3 s4 s5 s6 s7 F K w wr) (n : Nat) : MixIn B s0 s1 s2 s3 s4 s5 s6 s7 F K w (wr.drewN n) :=
  ⟨h.c0, h.c1, h.c2, h.c3, h.c4, h.c5, h.c6, h.c7, h.cw, h.ck, h.room, below_drewN h.bel n⟩

set_option maxRecDepth 100000 in
set_option maxHeartbeats 2000000 in
theorem mix_any (s0 s1 s2 s3 s4 s5 s6 s7 : Int) (W : Array Value) (F K : Nat → Int) (hW : ∀ i, i < 64 → W[i]? = some (.int .u32 (F i))) (w : World)
    (hg : 3 < w.heap.size)
    (hK : ∀ i : Nat, i < 64 → w.cell? ⟨3, i, none⟩ = some (.int .u32 (K i))) :
    Calls Tryz.prog 136 #[.agg #[.int .u32 s0, .int .u32 s1, .int .u32 s2, .int .u32 s3, .int .u32 s4, .int .u32 s5, .int .u32 s6, .int .u32 s7], .agg W] w fun e w' => e = .returned (.agg (R8.plus ⟨s0, s1, s2, s3, s4, s5, s6, s7⟩ (rounds ⟨s0, s1, s2, s3, s4, s5, s6, s7⟩ F K 64)).vals) ∧ Below w.heap.size w w' := by
  go_enter Tryz.func136, Tryz.ntmps136
  go_wp2_with fail
  generalize hwb : World.alloc (World.alloc (World.alloc w (.cells #[.int .u32 s0, .int .u32 s1, .int .u32 s2, .int .u32 s3, .int .u32 s4, .int .u32 s5, .int .u32 s6, .int .u32 s7] 175)) (.cells W 178))
    (.cells #[.int .u32 0, .int .u32 0, .int .u32 0, .int .u32 0, .int .u32 0, .int .u32 0, .int .u32 0, .int .u32 0] 175) = wb
  obtain ⟨B, hB⟩ : ∃ B, w.heap.size = B := ⟨_, rfl⟩
  have hM : MixIn B s0 s1 s2 s3 s4 s5 s6 s7 F K w wb := by
    subst hB hwb
    obtain ⟨h0, h1, h2, h3⟩ := alloc3 w (.cells #[.int .u32 s0, .int .u32 s1, .int .u32 s2, .int .u32 s3, .int .u32 s4, .int .u32 s5, .int .u32 s6, .int .u32 s7] 175) (.cells W 178)
      (.cells #[.int .u32 0, .int .u32 0, .int .u32 0, .int .u32 0, .int .u32 0, .int .u32 0, .int .u32 0, .int .u32 0] 175)
    exact ⟨row_cell h0 0, row_cell h0 1, row_cell h0 2, row_cell h0 3, row_cell h0 4, row_cell h0 5, row_cell h0 6, row_cell h0 7, fun i hi => (row_cell h1 i).trans (hW i hi), fun i hi => (h3.cell (p := ⟨3, i, none⟩) hg).trans (hK i hi), h2, h3⟩
  rw [hB]
  clear hwb
  obtain ⟨k0, k1, k2, k3, k4, k5, k6, k7, -, -, -, -⟩ := id hM
  have HM := hide hM
  clear hM
  go_quiet (fail)
  go_wp2_with fail
  go_loopw [5, 6, 7, 8, 9, 10, 11, 12, 32] (fun a b c d e f g h i wr => ∃ (k : Nat) (r : R8), k ≤ 64 ∧ i = .int .i64 k ∧ a = .int .u32 r.a ∧ b = .int .u32 r.b ∧ c = .int .u32 r.c ∧ d = .int .u32 r.d ∧ e = .int .u32 r.e ∧ f = .int .u32 r.f ∧ g = .int .u32 r.g ∧ h = .int .u32 r.h ∧ Hid (r = rounds ⟨s0, s1, s2, s3, s4, s5, s6, s7⟩ F K k) ∧ Hid (MixIn B s0 s1 s2 s3 s4 s5 s6 s7 F K w wr))
    (fun _ _ _ _ _ _ _ _ i _ => 64 - (intOf i).toNat)
  case atStart => exact ⟨0, ⟨s0, s1, s2, s3, s4, s5, s6, s7⟩, by omega, rfl, rfl, rfl, rfl, rfl, rfl, rfl, rfl, rfl, hide rfl, hide (HM.out.drewN _)⟩
  case round =>
    obtain ⟨k, ⟨a', b', c', d', e', f', g', h'⟩, hk, rfl, rfl, rfl, rfl, rfl, rfl, rfl, rfl, rfl, HR, HW⟩ := hrel
    by_cases hlt : k < 64
    · have xw := HW.out.cw k hlt
      have xk := HW.out.ck k hlt
      have b64 : (k : Int) < 64 := by omega
      go_wp2_with fail
      go_quiet (first | (go_at_call 146; refine Calls.quiet_of_same (bigSigma1_any _ _)))
      go_wp2_with (go_at_call 147; refine (bigSigma0_any _ _).mono ?_; rintro e w' ⟨rfl, rfl⟩)
      go_roundw
      case rel =>
        refine ⟨k + 1, R8.next ⟨a', b', c', d', e', f', g', h'⟩ (K k) (F k), by omega, by go_num, rfl, rfl, rfl, rfl, rfl, rfl, rfl, rfl, hide ?_, hide (HW.out.drewN _)⟩
        rw [rounds, ← HR.out]
      case measure => simp [intOf]; omega
    · obtain rfl : k = 64 := by omega
      obtain ⟨k0, k1, k2, k3, k4, k5, k6, k7, -, -, kr, -⟩ := id HW.out
      have r0 := (row_cell kr 0).trans (show _ = some (.int .u32 0) from rfl)
      have r1 := (row_cell kr 1).trans (show _ = some (.int .u32 0) from rfl)
      have r2 := (row_cell kr 2).trans (show _ = some (.int .u32 0) from rfl)
      have r3 := (row_cell kr 3).trans (show _ = some (.int .u32 0) from rfl)
      have r4 := (row_cell kr 4).trans (show _ = some (.int .u32 0) from rfl)
      have r5 := (row_cell kr 5).trans (show _ = some (.int .u32 0) from rfl)
      have r6 := (row_cell kr 6).trans (show _ = some (.int .u32 0) from rfl)
      have r7 := (row_cell kr 7).trans (show _ = some (.int .u32 0) from rfl)
      have f0 := row_free kr 0
      have f1 := row_free kr 1
      have f2 := row_free kr 2
      have f3 := row_free kr 3
      have f4 := row_free kr 4
      have f5 := row_free kr 5
      have f6 := row_free kr 6
      have f7 := row_free kr 7
      clear kr
      have hb := HW.out.bel
      go_wp2_with fail
      have g0 := heap_setCell_same _ (B + 1 + 1) 0 _ _ (.int .u32 ((s0 + a') % 4294967296)) HW.out.room
      have g1 := heap_setCell_same _ (B + 1 + 1) 1 _ _ (.int .u32 ((s1 + b') % 4294967296)) g0
      have g2 := heap_setCell_same _ (B + 1 + 1) 2 _ _ (.int .u32 ((s2 + c') % 4294967296)) g1
      have g3 := heap_setCell_same _ (B + 1 + 1) 3 _ _ (.int .u32 ((s3 + d') % 4294967296)) g2
      have g4 := heap_setCell_same _ (B + 1 + 1) 4 _ _ (.int .u32 ((s4 + e') % 4294967296)) g3
      have g5 := heap_setCell_same _ (B + 1 + 1) 5 _ _ (.int .u32 ((s5 + f') % 4294967296)) g4
      have g6 := heap_setCell_same _ (B + 1 + 1) 6 _ _ (.int .u32 ((s6 + g') % 4294967296)) g5
      have g7 := heap_setCell_same _ (B + 1 + 1) 7 _ _ (.int .u32 ((s7 + h') % 4294967296)) g6
      have q : w.heap.size ≤ B + 1 + 1 := by omega
      have hb8 := (((((((hb.setCell (p := ⟨B + 1 + 1, 0, none⟩) q (.int .u32 ((s0 + a') % 4294967296))).setCell (p := ⟨B + 1 + 1, 1, none⟩) q (.int .u32 ((s1 + b') % 4294967296))).setCell (p := ⟨B + 1 + 1, 2, none⟩) q (.int .u32 ((s2 + c') % 4294967296))).setCell (p := ⟨B + 1 + 1, 3, none⟩) q (.int .u32 ((s3 + d') % 4294967296))).setCell (p := ⟨B + 1 + 1, 4, none⟩) q (.int .u32 ((s4 + e') % 4294967296))).setCell (p := ⟨B + 1 + 1, 5, none⟩) q (.int .u32 ((s5 + f') % 4294967296))).setCell (p := ⟨B + 1 + 1, 6, none⟩) q (.int .u32 ((s6 + g') % 4294967296))).setCell (p := ⟨B + 1 + 1, 7, none⟩) q (.int .u32 ((s7 + h') % 4294967296))
      have g8 := g7.trans (show _ = some (.cells (R8.plus ⟨s0, s1, s2, s3, s4, s5, s6, s7⟩ ⟨a', b', c', d', e', f', g', h'⟩).vals 175 (0, 0)) from rfl)
      refine bodyPost_ret (results_cell_row rfl _ _ (B + 1 + 1) _ _ (0, 0) _ rfl g8 Tryz.underlying175 rfl (by kernel_rfl)) rfl ⟨?_, hb8⟩
      rw [← HR.out]
end Go.Proofs.YtgdmgmklncmanaaGreatDoor
