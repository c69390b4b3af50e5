/- The walk over the first three lines. -/
import Derived.Test.YtgdmgmklncmanaaGreatDoorParW4
namespace Go.Proofs.YtgdmgmklncmanaaGreatDoor
open Go.RowKit
open Arc (St Cmd S)

theorem cutPre_any (x p : S) (w : World) :
    Calls Tryz.prog 67 #[.string ⟨x.toArray⟩, .string ⟨p.toArray⟩] w fun e w' => e = .returned (.tuple #[.string ⟨(Lib.trimPrefix x p).toArray⟩, .bool (Lib.hasPrefix x p)]) ∧ w' = w :=
  Tryz.strings_CutPrefix ⟨x.toArray⟩ ⟨p.toArray⟩ w

set_option maxRecDepth 100000 in
set_option maxHeartbeats 300000 in
theorem head_ok (pb lg c : Nat) (st : St) (sl : Fin 6 → Value) (b d nm ve : S) (w : World) (h : PIn pb [] [] st sl w) (hlg : lg < w.heap.size) (hne : lg ≠ pb) (hnl : nm.length ≤ 2000)
    (c0 : w.cell? ⟨lg, 0, none⟩ = some (.string ⟨#[104, 97, 118, 101, 110, 32, 49]⟩)) (c1 : w.cell? ⟨lg, 1, none⟩ = some (.string ⟨b.toArray⟩)) (c2 : w.cell? ⟨lg, 2, none⟩ = some (.string ⟨d.toArray⟩))
    (hb1 : Lib.hasPrefix b [110, 97, 109, 101, 32] = true) (hb2 : Lib.trimPrefix b [110, 97, 109, 101, 32] = nm) (hd1 : Lib.hasPrefix d [118, 101, 114, 115, 105, 111, 110, 32] = true) (hd2 : Lib.trimPrefix d [118, 101, 114, 115, 105, 111, 110, 32] = ve)
    (hn : Wd.isName nm = true) (hv : Ver.fine ve = true) :
    Calls Tryz.prog 42 #[.pointer (some ⟨pb, 0, none⟩), .slice (some ⟨lg, 0, none⟩) 3 c] w fun e w' => e = .returned (.bool true) ∧ PIn pb nm ve st sl w' ∧ Below pb w w' := by
  have k0 := (row_cell h.blk 0).trans (show _ = some (.string ⟨#[]⟩) from rfl)
  have k1 := (row_cell h.blk 1).trans (show _ = some (.string ⟨#[]⟩) from rfl)
  have f0 := row_free h.blk 0
  have f1 := row_free h.blk 1
  have hlt := h.lt
  have hne2 : ¬ pb = lg := fun e => hne e.symm
  have H := hide (h.names nm ve)
  have HB : Hid (Below pb w ((w.setCell ⟨pb, 0, none⟩ (strV nm)).setCell ⟨pb, 1, none⟩ (strV ve))) := hide (((Below.refl pb w).setCell (p := ⟨pb, 0, none⟩) (Nat.le_refl pb) _).setCell (p := ⟨pb, 1, none⟩) (Nat.le_refl pb) _)
  clear h
  go_enter Tryz.func42, Tryz.ntmps42
  go_wp2_with fail
  refine (cutPre_any b [110, 97, 109, 101, 32] _).mono ?_
  rintro e w1 ⟨he, rfl⟩
  rw [hb1, hb2] at he
  subst he
  go_wp2_with fail
  refine (cutPre_any d [118, 101, 114, 115, 105, 111, 110, 32] _).mono ?_
  rintro e w1 ⟨he, rfl⟩
  rw [hd1, hd2] at he
  subst he
  clear hb1 hb2 hd1 hd2
  go_wp2_with (first
    | (go_at_call 68; refine (isName_any nm hnl _).mono ?_; rintro e w3 ⟨rfl, hbn⟩)
    | (go_at_call 69; refine (isVersion_any ve _).mono ?_; rintro e w4 ⟨rfl, hbv⟩))
  go_ret
  exact ⟨rfl, (H.out.below hbn).below hbv, HB.out.trans ((hbn.trans (hbv.mono hbn.size)).mono (Nat.le_of_lt H.out.lt))⟩

theorem cut_any (x u v : S) (hx : x.length ≤ 2000) (h : cutTwo x = some (u, v)) (mx : Int) (w : World) (hm : w.cell? ⟨0, 0, none⟩ = some (.int .i64 mx)) :
    Calls Tryz.prog 27 #[.string ⟨x.toArray⟩, .string ⟨#[10, 10]⟩] w fun e w' => e = .returned (.tuple #[.string ⟨u.toArray⟩, .string ⟨v.toArray⟩, .bool true]) ∧ Below w.heap.size w w' ∧ w'.heap.size = w.heap.size := by
  refine (Tryz.strings_Cut ⟨x.toArray⟩ ⟨#[10, 10]⟩ mx w (by simp [ByteArray.size]; omega) hm).mono ?_
  rintro e w' ⟨he, n, rfl⟩
  have hc := cutTwo_cut x
  rw [h] at hc
  refine ⟨?_, below_drewN (Below.refl _ _) n, rfl⟩
  rw [he]
  show Ending.returned (.tuple #[.string ⟨(Lib.cut x [10, 10]).1.toArray⟩, .string ⟨(Lib.cut x [10, 10]).2.1.toArray⟩, .bool (Lib.cut x [10, 10]).2.2]) = _
  rw [hc]

/-- The parser at its beginning. -/
theorem PIn.begin (w : World) (x : S) : PIn w.heap.size [] [] (.of x) (fun _ => .slice none 0 0) (w.alloc (.cells #[.string ⟨#[]⟩, .string ⟨#[]⟩, .slice none 0 0, .slice none 0 0, .slice none 0 0, .slice none 0 0, .slice none 0 0, .slice none 0 0, .string ⟨x.toArray⟩] 100)) := by
  refine ⟨heap_alloc_new w _, fun i => ?_, fun i j _ g hg => by cases hg⟩
  match i with
  | 0 => exact World.ownsRow_nil _ _ _ _
  | 1 => exact World.ownsRow_nil _ _ _ _
  | 2 => exact World.ownsRow_nil _ _ _ _
  | 3 => exact World.ownsRow_nil _ _ _ _
  | 4 => exact World.ownsRow_nil _ _ _ _
  | 5 => exact World.ownsRow_nil _ _ _ _
theorem nine_free {w : World} {b : Nat} {t : TypeId} {a0 a1 a2 a3 a4 a5 a6 a7 a8 : Value} (h : w.heap[b]? = some (.cells #[a0, a1, a2, a3, a4, a5, a6, a7, a8] t (0, 0))) :
    w.cell? ⟨b, 0, none⟩ = some a0 ∧ w.cell? ⟨b, 1, none⟩ = some a1 ∧ w.cell? ⟨b, 2, none⟩ = some a2 ∧ w.cell? ⟨b, 3, none⟩ = some a3 ∧ w.cell? ⟨b, 4, none⟩ = some a4 ∧ w.cell? ⟨b, 5, none⟩ = some a5 ∧ w.cell? ⟨b, 6, none⟩ = some a6 ∧ w.cell? ⟨b, 7, none⟩ = some a7 ∧ w.cell? ⟨b, 8, none⟩ = some a8 :=
  ⟨(row_cell h 0).trans rfl, (row_cell h 1).trans rfl, (row_cell h 2).trans rfl, (row_cell h 3).trans rfl, (row_cell h 4).trans rfl, (row_cell h 5).trans rfl, (row_cell h 6).trans rfl, (row_cell h 7).trans rfl, (row_cell h 8).trans rfl⟩
theorem eight_any {w : World} {b : Nat} {t : TypeId} {a0 a1 a2 a3 a4 a5 a6 a7 : Value} (h : w.heap[b]? = some (.cells #[a0, a1, a2, a3, a4, a5, a6, a7] t (0, 0))) :
    w.cell? ⟨b, 0, none⟩ = some a0 ∧ w.cell? ⟨b, 1, none⟩ = some a1 ∧ w.cell? ⟨b, 2, none⟩ = some a2 ∧ w.cell? ⟨b, 3, none⟩ = some a3 ∧ w.cell? ⟨b, 4, none⟩ = some a4 ∧ w.cell? ⟨b, 5, none⟩ = some a5 ∧ w.cell? ⟨b, 6, none⟩ = some a6 ∧ w.cell? ⟨b, 7, none⟩ = some a7
    ∧ w.frozen? ⟨b, 0, none⟩ = false ∧ w.frozen? ⟨b, 1, none⟩ = false ∧ w.frozen? ⟨b, 2, none⟩ = false ∧ w.frozen? ⟨b, 3, none⟩ = false ∧ w.frozen? ⟨b, 4, none⟩ = false ∧ w.frozen? ⟨b, 5, none⟩ = false ∧ w.frozen? ⟨b, 6, none⟩ = false ∧ w.frozen? ⟨b, 7, none⟩ = false :=
  ⟨(row_cell h 0).trans rfl, (row_cell h 1).trans rfl, (row_cell h 2).trans rfl, (row_cell h 3).trans rfl, (row_cell h 4).trans rfl, (row_cell h 5).trans rfl, (row_cell h 6).trans rfl, (row_cell h 7).trans rfl, row_free h 0, row_free h 1, row_free h 2, row_free h 3, row_free h 4, row_free h 5, row_free h 6, row_free h 7⟩
/-- Eight cells set one behind the other, of whatever values. -/
theorem eight_put {w0 wr : World} {b : Nat} {t : TypeId} {a0 a1 a2 a3 a4 a5 a6 a7 : Value} (n0 n1 n2 n3 n4 n5 n6 n7 : Value) (h : wr.heap[b]? = some (.cells #[a0, a1, a2, a3, a4, a5, a6, a7] t (0, 0))) (hb : Below w0.heap.size w0 wr) (hlt : w0.heap.size ≤ b) :
    RowIs w0 wr b t #[n0, n1, n2, n3, n4, n5, n6, n7] ((((((((wr.setCell ⟨b, 0, none⟩ n0).setCell ⟨b, 1, none⟩ n1).setCell ⟨b, 2, none⟩ n2).setCell ⟨b, 3, none⟩ n3).setCell ⟨b, 4, none⟩ n4).setCell ⟨b, 5, none⟩ n5).setCell ⟨b, 6, none⟩ n6).setCell ⟨b, 7, none⟩ n7) := by
  have g : RowIs w0 wr b t _ wr := ⟨h, hb, fun _ _ => rfl, rfl⟩
  have g8 := (((((((g.set hlt 0 n0).set hlt 1 n1).set hlt 2 n2).set hlt 3 n3).set hlt 4 n4).set hlt 5 n5).set hlt 6 n6).set hlt 7 n7
  have e : ((((((((#[a0, a1, a2, a3, a4, a5, a6, a7] : Array Value).setIfInBounds 0 n0).setIfInBounds 1 n1).setIfInBounds 2 n2).setIfInBounds 3 n3).setIfInBounds 4 n4).setIfInBounds 5 n5).setIfInBounds 6 n6).setIfInBounds 7 n7 = #[n0, n1, n2, n3, n4, n5, n6, n7] := by simp
  rw [e] at g8
  exact g8
end Go.Proofs.YtgdmgmklncmanaaGreatDoor
