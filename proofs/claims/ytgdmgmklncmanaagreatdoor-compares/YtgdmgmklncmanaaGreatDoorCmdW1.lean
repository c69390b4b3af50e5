/- The walks over commands: a word that comes behind a file's content. -/
import Derived.Test.YtgdmgmklncmanaaGreatDoorArcMath
import Derived.Test.YtgdmgmklncmanaaGreatDoorDigW8
namespace Go.Proofs.YtgdmgmklncmanaaGreatDoor
open Go.RowKit

theorem cmd_set {w0 wr : World} {b : Nat} {t : TypeId} {a0 a1 a2 a3 : Value} (h : wr.heap[b]? = some (.cells #[a0, a1, a2, a3] t (0, 0))) (v : Value) :
    (wr.setCell ⟨b, 2, none⟩ v).heap[b]? = some (.cells #[a0, a1, v, a3] t (0, 0)) ∧ (wr.setCell ⟨b, 0, none⟩ v).heap[b]? = some (.cells #[v, a1, a2, a3] t (0, 0)) ∧ (Below w0.heap.size w0 wr → w0.heap.size ≤ b → Below w0.heap.size w0 (wr.setCell ⟨b, 2, none⟩ v)) :=
  ⟨heap_setCell_same _ b 2 _ _ v h, heap_setCell_same _ b 0 _ _ v h, fun hb hl => hb.setCell (p := ⟨b, 2, none⟩) hl v⟩

set_option maxHeartbeats 400000 in
theorem third_add (b g o c : Nat) (p q : List UInt8) (hq : q.length ≤ 2000) (w : World)
    (hb : w.heap[b]? = some (.cells #[.int .i64 2, .string ⟨p.toArray⟩, .string ⟨#[]⟩, .string ⟨#[]⟩] 143 (0, 0)))
    (h2 : w.cell? ⟨g, o + 2, none⟩ = some (.string ⟨q.toArray⟩)) :
    Calls Tryz.prog 114 #[.pointer (some ⟨b, 0, none⟩), .slice (some ⟨g, o, none⟩) 3 c] w fun e w' => e = .returned (.bool (Wd.isWord q)) ∧ Below (w.setCell ⟨b, 2, none⟩ (.string ⟨q.toArray⟩)).heap.size (w.setCell ⟨b, 2, none⟩ (.string ⟨q.toArray⟩)) w' := by
  have k0 := (row_cell hb 0).trans (show _ = some (.int .i64 2) from rfl)
  have k2 := (row_cell hb 2).trans (show _ = some (.string ⟨#[]⟩) from rfl)
  have f2 := row_free hb 2
  have HB := hide hb; clear hb
  go_enter Tryz.func114, Tryz.ntmps114
  go_wp2_with (go_at_call 126; refine (isWord_any q hq _).mono ?_; rintro e w' ⟨rfl, hbw⟩)
  go_ret
  exact ⟨rfl, hbw⟩

/-- A block of four cells. -/
theorem four_free {w : World} {b : Nat} {t : TypeId} {a0 a1 a2 a3 : Value} (h : w.heap[b]? = some (.cells #[a0, a1, a2, a3] t (0, 0))) :
    w.cell? ⟨b, 0, none⟩ = some a0 ∧ w.cell? ⟨b, 1, none⟩ = some a1 ∧ w.cell? ⟨b, 2, none⟩ = some a2 ∧ w.cell? ⟨b, 3, none⟩ = some a3 ∧ w.frozen? ⟨b, 0, none⟩ = false ∧ w.frozen? ⟨b, 1, none⟩ = false ∧ w.frozen? ⟨b, 2, none⟩ = false ∧ w.frozen? ⟨b, 3, none⟩ = false :=
  ⟨(row_cell h 0).trans rfl, (row_cell h 1).trans rfl, (row_cell h 2).trans rfl, (row_cell h 3).trans rfl, row_free h 0, row_free h 1, row_free h 2, row_free h 3⟩
structure CmdIn (w : World) (a b c d a' b' c' d' : Value) (w1 : World) : Prop where
  out : w1.heap[w.heap.size]? = some (.cells #[a, b, c, d] 143 (0, 0))
  cmd : w1.heap[w.heap.size + 1]? = some (.cells #[a', b', c', d'] 143 (0, 0))
  bel : Below w.heap.size w w1
theorem CmdIn.begin (w : World) (a b c d a' b' c' d' : Value) : CmdIn w a b c d a' b' c' d' ((w.alloc (.cells #[a, b, c, d] 143)).alloc (.cells #[a', b', c', d'] 143)) := by
  obtain ⟨h0, h1, h2⟩ := alloc2 w (.cells #[a, b, c, d] 143) (.cells #[a', b', c', d'] 143)
  exact ⟨h0, h1, h2⟩
theorem CmdIn.set2 {w w1 : World} {a b c d a' b' c' d' : Value} (h : CmdIn w a b c d a' b' c' d' w1) (v : Value) : CmdIn w a b c d a' b' v d' (w1.setCell ⟨w.heap.size + 1, 2, none⟩ v) :=
  ⟨(Below.heap_setCell _ _ _ _ (by simp)).trans h.out, heap_setCell_same _ _ 2 _ _ v h.cmd, h.bel.setCell (p := ⟨w.heap.size + 1, 2, none⟩) (by simp) v⟩
theorem CmdIn.on {w w1 w2 : World} {a b c d a' b' c' d' : Value} (h : CmdIn w a b c d a' b' c' d' w1) (hb : Below w1.heap.size w1 w2) : CmdIn w a b c d a' b' c' d' w2 := by
  have h1 : w.heap.size + 1 < w1.heap.size := (Array.getElem?_eq_some_iff.1 h.cmd).1
  exact ⟨(hb.block _ (by omega)).trans h.out, (hb.block _ h1).trans h.cmd, h.bel.trans (hb.mono (by omega))⟩
/-- What is told comes to the place of the result. -/
theorem CmdIn.told {w w1 : World} {a b c d a' b' c' d' : Value} (h : CmdIn w a b c d a' b' c' d' w1) : ∃ w2, w2 = (((w1.setCell ⟨w.heap.size, 0, none⟩ a').setCell ⟨w.heap.size, 1, none⟩ b').setCell ⟨w.heap.size, 2, none⟩ c').setCell ⟨w.heap.size, 3, none⟩ d' ∧
    w2.heap[w.heap.size]? = some (.cells #[a', b', c', d'] 143 (0, 0)) ∧ Below w.heap.size w w2 :=
  ⟨_, rfl, heap_setCell_same _ _ 3 _ _ d' (heap_setCell_same _ _ 2 _ _ c' (heap_setCell_same _ _ 1 _ _ b' (heap_setCell_same _ _ 0 _ _ a' h.out))), (((h.bel.setCell (p := ⟨w.heap.size, 0, none⟩) (Nat.le_refl _) _).setCell (p := ⟨w.heap.size, 1, none⟩) (Nat.le_refl _) _).setCell (p := ⟨w.heap.size, 2, none⟩) (Nat.le_refl _) _).setCell (p := ⟨w.heap.size, 3, none⟩) (Nat.le_refl _) _⟩

set_option maxHeartbeats 1000000 in
theorem command_add (g o c : Nat) (p q : List UInt8) (hq : q.length ≤ 2000) (hp : p.length ≤ 2000) (h1 : Wd.isWord q = true) (h2 : Wd.isVar p = true) (mx : Int) (w : World) (hg0 : 0 < w.heap.size) (hm : w.cell? ⟨0, 0, none⟩ = some (.int .i64 mx))
    (hg : g < w.heap.size) (c0 : w.cell? ⟨g, o, none⟩ = some (.string ⟨#[97, 100, 100]⟩)) (c1 : w.cell? ⟨g, o + 1, none⟩ = some (.string ⟨p.toArray⟩)) (c2 : w.cell? ⟨g, o + 2, none⟩ = some (.string ⟨q.toArray⟩)) :
    Calls Tryz.prog 95 #[.slice (some ⟨g, o, none⟩) 3 c] w fun e w' => e = .returned (.tuple #[.agg #[.int .i64 2, .string ⟨p.toArray⟩, .string ⟨q.toArray⟩, .string ⟨#[]⟩], .bool true]) ∧ Below w.heap.size w w' := by
  have HI := hide (CmdIn.begin w (.int .i64 0) (.string ⟨#[]⟩) (.string ⟨#[]⟩) (.string ⟨#[]⟩) (.int .i64 2) (.string ⟨p.toArray⟩) (.string ⟨#[]⟩) (.string ⟨#[]⟩))
  have HM := hide hm; clear hm
  have HC2 := hide c2; clear c2
  go_enter Tryz.func95, Tryz.ntmps95
  go_wp2_with (first
    | (go_at_call 114; refine (third_add _ g o c p q hq _ HI.out.cmd ((HI.out.bel.cell (p := ⟨g, o + 2, none⟩) hg).trans HC2.out)).mono ?_; rintro e w1 ⟨rfl, hb1⟩; have HI1 := hide ((HI.out.set2 (.string ⟨q.toArray⟩)).on hb1); obtain ⟨r0, r1, r2, r3, r4, r5, r6, r7⟩ := four_free HI1.out.cmd; clear hb1)
    | (go_at_call 115; refine (isVar_any p hp mx _ ((HI1.out.bel.cell (p := ⟨0, 0, none⟩) hg0).trans HM.out)).mono ?_; rintro e w2 ⟨rfl, hb2⟩; have HI2 := hide (HI1.out.on hb2); obtain ⟨s0, s1, s2, s3, s4, s5, s6, s7⟩ := four_free HI2.out.cmd; obtain ⟨t0, t1, t2, t3, t4, t5, t6, t7⟩ := four_free HI2.out.out; clear hb2))
  obtain ⟨w9, hw9, hrow, hbel⟩ := HI2.out.told
  obtain ⟨u0, u1, u2, u3, -⟩ := four_free hrow
  rw [hw9] at u0 u1 u2 u3 hbel
  exact bodyPost_ret (v := .tuple #[.agg #[.int .i64 2, .string ⟨p.toArray⟩, .string ⟨q.toArray⟩, .string ⟨#[]⟩], .bool true]) (by simp [results, Tryz.results95, go_sem, u0, u1, u2, u3]) rfl ⟨rfl, hbel⟩
end Go.Proofs.YtgdmgmklncmanaaGreatDoor
