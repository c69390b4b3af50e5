/- Of Ins: VerW8. -/
import Derived.Test.YtgdmgmklncmanaaGreatDoorIns2
/- The walks over strings.Cut at a colon and version.Parse. -/
namespace Go.Proofs.YtgdmgmklncmanaaGreatDoor
open Go.RowKit

set_option maxRecDepth 100000 in
set_option maxHeartbeats 400000 in
theorem index_any (x : List UInt8) (w : World) :
    Calls Tryz.prog 76 #[.string ⟨x.toArray⟩, .string ⟨#[58]⟩] w fun e w' => e = .returned (.int .i64 (Lib.indexByte x 58)) ∧ w' = w := by
  by_cases h : x = [58]
  · subst h
    go_enter Tryz.func76, Tryz.ntmps76
    go_wp2
    go_ret
    exact ⟨ret_int (by decide), rfl⟩
  · have hne : ([58] == x) = false := by simpa using fun h' => h (by simpa using h'.symm)
    go_enter Tryz.func76, Tryz.ntmps76
    go_wp2_with (go_at_call 98; refine (Tryz.stringslite_IndexByte ⟨x.toArray⟩ 58 _).mono ?_; rintro e w' ⟨rfl, rfl⟩)
    go_ret
    exact ⟨rfl, rfl⟩

theorem ret_cut {a b c d : ByteArray} {z : Bool} (h : a = b) (k : c = d) : Ending.returned (.tuple #[.string a, .string c, .bool z]) = .returned (.tuple #[.string b, .string d, .bool z]) := by rw [h, k]
theorem list_ext_take (x : List UInt8) (k : Nat) : (⟨x.toArray⟩ : ByteArray).extract 0 k = ⟨(x.take k).toArray⟩ := ext_take ⟨x.toArray⟩ k
theorem list_ext_drop (x : List UInt8) (k : Nat) : (⟨x.toArray⟩ : ByteArray).extract k x.length = ⟨(x.drop k).toArray⟩ := ext_drop ⟨x.toArray⟩ k

set_option maxHeartbeats 400000 in
theorem lcut_no (x : List UInt8) (h1 : Lib.indexByte x 58 = -1) (w : World) :
    Calls Tryz.prog 53 #[.string ⟨x.toArray⟩, .string ⟨#[58]⟩] w fun e w' =>
      e = .returned (.tuple #[.string ⟨x.toArray⟩, .string ⟨#[]⟩, .bool false]) ∧ w' = w := by
  go_enter Tryz.func53, Tryz.ntmps53
  go_wp2_with (go_at_call 76; refine (index_any x _).mono ?_; rintro e w' ⟨rfl, rfl⟩)
  go_ret3
  exact ⟨rfl, rfl⟩

set_option maxHeartbeats 400000 in
theorem lcut_yes (x : List UInt8) (k : Nat) (hk : k < x.length) (hx : x.length ≤ 24) (h1 : Lib.indexByte x 58 = k) (w : World) :
    Calls Tryz.prog 53 #[.string ⟨x.toArray⟩, .string ⟨#[58]⟩] w fun e w' =>
      e = .returned (.tuple #[.string ⟨(x.take k).toArray⟩, .string ⟨(x.drop (k + 1)).toArray⟩, .bool true]) ∧ w' = w.drew := by
  have c1 : (0 : Int) ≤ ↑k := by omega
  have c2 : (↑k : Int) ≤ ↑x.length := by omega
  have c3 : (↑k : Int) + 1 ≤ ↑x.length := by omega
  go_enter Tryz.func53, Tryz.ntmps53
  go_wp2_with (go_at_call 76; refine (index_any x _).mono ?_; rintro e w' ⟨rfl, rfl⟩)
  go_region
  all_goals (go_wp2; go_ret3; exact ⟨ret_cut (list_ext_take x k) (list_ext_drop x (k + 1)), rfl⟩)

set_option maxHeartbeats 400000 in
theorem cut_no (x : List UInt8) (h1 : Lib.indexByte x 58 = -1) (w : World) :
    Calls Tryz.prog 27 #[.string ⟨x.toArray⟩, .string ⟨#[58]⟩] w fun e w' =>
      e = .returned (.tuple #[.string ⟨x.toArray⟩, .string ⟨#[]⟩, .bool false]) ∧ w' = w := by
  go_enter Tryz.func27, Tryz.ntmps27
  go_wp2_with (go_at_call 53; refine (lcut_no x h1 _).mono ?_; rintro e w' ⟨rfl, rfl⟩)
  go_ret3
  exact ⟨rfl, rfl⟩
set_option maxHeartbeats 400000 in
theorem cut_yes (x : List UInt8) (k : Nat) (hk : k < x.length) (hx : x.length ≤ 24) (h1 : Lib.indexByte x 58 = k) (w : World) :
    Calls Tryz.prog 27 #[.string ⟨x.toArray⟩, .string ⟨#[58]⟩] w fun e w' =>
      e = .returned (.tuple #[.string ⟨(x.take k).toArray⟩, .string ⟨(x.drop (k + 1)).toArray⟩, .bool true]) ∧ w' = w.drew := by
  go_enter Tryz.func27, Tryz.ntmps27
  go_wp2_with (go_at_call 53; refine (lcut_yes x k hk hx h1 _).mono ?_; rintro e w' ⟨rfl, rfl⟩)
  go_ret3
  exact ⟨rfl, rfl⟩
theorem last_any (x : List UInt8) (hx : x.length ≤ 24) (w : World) :
    Calls Tryz.prog 28 #[.string ⟨x.toArray⟩, .int .u8 45] w fun e w' => e = .returned (.int .i64 (Lib.lastIndexByte ⟨x.toArray⟩ 45)) ∧ w' = w :=
  Tryz.strings_LastIndexByte ⟨x.toArray⟩ 45 (by simp [ByteArray.size]; omega) w
def zv : Value := .agg #[.string ⟨#[]⟩, .string ⟨#[]⟩, .string ⟨#[]⟩]

set_option maxHeartbeats 400000 in
theorem parse_short (s : ByteArray) (h : s.size = 0 ∨ 24 < s.size) (w : World) :
    Calls Tryz.prog 13 #[.string s] w fun e w' => e = .returned (.tuple #[zv, .bool false]) ∧ Below w.heap.size w w' := by
  rcases h with h | h
  · have hs : (s.size : Int) < 1 := by omega
    clear h
    go_enter Tryz.func13, Tryz.ntmps13
    go_wp2
    exact bodyPost_ret (v := .tuple #[zv, .bool false]) (by simp [results, Tryz.results13, go_sem, zv]) rfl ⟨rfl, (Below.refl _ _).alloc (Nat.le_refl _) _⟩
  · have hs : ¬ (s.size : Int) < 1 := by omega
    have hs' : (24 : Int) < s.size := by omega
    clear h
    go_enter Tryz.func13, Tryz.ntmps13
    go_wp2
    exact bodyPost_ret (v := .tuple #[zv, .bool false]) (by simp [results, Tryz.results13, go_sem, zv]) rfl ⟨rfl, (Below.refl _ _).alloc (Nat.le_refl _) _⟩

theorem bcell {W w1 : World} (hb : Below W.heap.size W w1) : (∀ b o, b < W.heap.size → w1.cell? ⟨b, o, none⟩ = W.cell? ⟨b, o, none⟩) ∧ (∀ b o, b < W.heap.size → w1.frozen? ⟨b, o, none⟩ = W.frozen? ⟨b, o, none⟩) :=
  ⟨fun b o h => hb.cell (p := ⟨b, o, none⟩) h, fun b o h => hb.frozen (p := ⟨b, o, none⟩) h⟩

theorem cut_yes' (x E m : List UInt8) (k : Nat) (hk : k < x.length) (hx : x.length ≤ 24) (h1 : Lib.indexByte x 58 = k) (hE : x.take k = E) (hm : x.drop (k + 1) = m) (w : World) :
    Calls Tryz.prog 27 #[.string ⟨x.toArray⟩, .string ⟨#[58]⟩] w fun e w' =>
      e = .returned (.tuple #[.string ⟨E.toArray⟩, .string ⟨m.toArray⟩, .bool true]) ∧ w' = w.drew := by
  subst hE hm; exact cut_yes x k hk hx h1 w

/-- What Parse hands back. -/
def okV (E M R : List UInt8) : Bool := Ver.okE E && Ver.okM M && Ver.okR R
def pv (E M R : List UInt8) : Value := if okV E M R = true then .agg #[.string ⟨E.toArray⟩, .string ⟨M.toArray⟩, .string ⟨R.toArray⟩] else zv
def Parsed (E M R : List UInt8) (w : World) : Ending → World → Prop := fun e w' => e = .returned (.tuple #[pv E M R, .bool (okV E M R)]) ∧ Below w.heap.size w w'
theorem parsed_no {E M R : List UInt8} {w w' : World} {e : Ending} (h : okV E M R = false) (he : e = .returned (.tuple #[zv, .bool false])) (hb : Below w.heap.size w w') : Parsed E M R w e w' := by
  refine ⟨?_, hb⟩; rw [he, h]; simp [pv, h]
theorem parsed_yes {E M R : List UInt8} {w w' : World} {e : Ending} (h : okV E M R = true) (he : e = .returned (.tuple #[.agg #[.string ⟨E.toArray⟩, .string ⟨M.toArray⟩, .string ⟨R.toArray⟩], .bool true])) (hb : Below w.heap.size w w') : Parsed E M R w e w' := by
  refine ⟨?_, hb⟩; rw [he, h]; simp [pv, h]

theorem three_sets {w : World} {b : Nat} {x y z : Value} (h0 : w.cell? ⟨b, 0, none⟩ = some x) (h1 : w.cell? ⟨b, 1, none⟩ = some y) (h2 : w.cell? ⟨b, 2, none⟩ = some z) (a1 a2 a3 : Value) :
    (((w.setCell ⟨b, 0, none⟩ a1).setCell ⟨b, 1, none⟩ a2).setCell ⟨b, 2, none⟩ a3).cell? ⟨b, 0, none⟩ = some a1 ∧
    (((w.setCell ⟨b, 0, none⟩ a1).setCell ⟨b, 1, none⟩ a2).setCell ⟨b, 2, none⟩ a3).cell? ⟨b, 1, none⟩ = some a2 ∧
    (((w.setCell ⟨b, 0, none⟩ a1).setCell ⟨b, 1, none⟩ a2).setCell ⟨b, 2, none⟩ a3).cell? ⟨b, 2, none⟩ = some a3 := by
  refine ⟨?_, ?_, ?_⟩
  · rw [World.cell?_setCell_other _ _ _ _ (by simp), World.cell?_setCell_other _ _ _ _ (by simp)]; exact World.cell?_setCell_same _ _ _ h0
  · rw [World.cell?_setCell_other _ _ _ _ (by simp)]
    exact World.cell?_setCell_same _ _ _ ((World.cell?_setCell_other _ _ _ _ (by simp)).trans h1)
  · exact World.cell?_setCell_same _ _ _ ((World.cell?_setCell_other _ _ _ _ (by simp)).trans ((World.cell?_setCell_other _ _ _ _ (by simp)).trans h2))
theorem below_two {w w1 : World} {a b : Obj} (h : Below ((w.alloc a).alloc b).heap.size ((w.alloc a).alloc b) w1) : Below w.heap.size w w1 :=
  (((Below.refl _ _).alloc (Nat.le_refl _) _).alloc (by simp) _).trans (h.mono (by simp; omega))
theorem below_two_d {w w1 : World} {a b : Obj} (h : Below ((w.alloc a).alloc b).drew.heap.size ((w.alloc a).alloc b).drew w1) : Below w.heap.size w w1 :=
  (((Below.refl _ _).alloc (Nat.le_refl _) _).alloc (by simp) _).drew.trans (h.mono (by simp; omega))
theorem below_two_dd {w w1 : World} {a b : Obj} (h : Below ((w.alloc a).alloc b).drew.drew.heap.size ((w.alloc a).alloc b).drew.drew w1) : Below w.heap.size w w1 :=
  (((Below.refl _ _).alloc (Nat.le_refl _) _).alloc (by simp) _).drew.drew.trans (h.mono (by simp; omega))

set_option maxHeartbeats 2000000 in
theorem parse_n_n (x : List UInt8) (hx0 : 1 ≤ x.length) (hx : x.length ≤ 24) (h1 : Lib.indexByte x 58 = -1) (h2 : Lib.lastIndexByte ⟨x.toArray⟩ 45 = -1) (w : World) :
    Calls Tryz.prog 13 #[.string ⟨x.toArray⟩] w (Parsed [48] x [48] w) := by
  have hs : ¬ (x.length : Int) < 1 := by omega
  have hs' : ¬ (24 : Int) < x.length := by omega
  go_enter Tryz.func13, Tryz.ntmps13
  go_wp2_with (first
    | (go_at_call 27; refine (cut_no _ h1 _).mono ?_; rintro e w' ⟨rfl, rfl⟩)
    | (go_at_call 28; refine (last_any _ hx _).mono ?_; rw [h2]; rintro e w' ⟨rfl, rfl⟩))
  clear hs hs'
  cases hE : Ver.okE [48]
  · skip
    refine (isEpoch_any [48] (by decide) _).mono ?_
    rintro e w1 ⟨rfl, hb1⟩
    obtain ⟨hc1, hf1⟩ := bcell hb1
    have hw1 : Below w.heap.size w w1 := by first | exact below_two hb1 | exact below_two_d hb1 | exact below_two_dd hb1
    have hz1 : w.heap.size + 1 < w1.heap.size := by have := hb1.size; simp at this; omega
    have hy1 : w.heap.size < w1.heap.size := by omega
    clear hb1
    replace hw1 := hide hw1
    go_wp2_with fail
    have g0 : w1.cell? ⟨w.heap.size, 0, none⟩ = some (.string ⟨#[]⟩) := by simp [go_sem, *]
    have g1 : w1.cell? ⟨w.heap.size, 1, none⟩ = some (.string ⟨#[]⟩) := by simp [go_sem, *]
    have g2 : w1.cell? ⟨w.heap.size, 2, none⟩ = some (.string ⟨#[]⟩) := by simp [go_sem, *]
    obtain ⟨q0, q1, q2⟩ := three_sets g0 g1 g2 (.string ⟨#[]⟩) (.string ⟨#[]⟩) (.string ⟨#[]⟩)
    exact bodyPost_ret (v := .tuple #[zv, .bool false]) (by simp [results, Tryz.results13, go_sem, q0, q1, q2, zv]) rfl (parsed_no (by simp [okV, hE]) rfl (((hw1.out.setCell (Nat.le_refl _) _).setCell (Nat.le_refl _) _).setCell (Nat.le_refl _) _))
  · skip
    refine (isEpoch_any [48] (by decide) _).mono ?_
    rintro e w1 ⟨rfl, hb1⟩
    obtain ⟨hc1, hf1⟩ := bcell hb1
    have hw1 : Below w.heap.size w w1 := by first | exact below_two hb1 | exact below_two_d hb1 | exact below_two_dd hb1
    have hz1 : w.heap.size + 1 < w1.heap.size := by have := hb1.size; simp at this; omega
    have hy1 : w.heap.size < w1.heap.size := by omega
    clear hb1
    replace hw1 := hide hw1
    go_wp2_with fail
    cases hM : Ver.okM x
    · skip
      refine (isMain_any x hx _).mono ?_
      rintro e w2 ⟨rfl, hb2⟩
      obtain ⟨hc2, hf2⟩ := bcell hb2
      have hw2 : Below w.heap.size w w2 := hw1.out.trans (hb2.mono hw1.out.size)
      have hz2 : w.heap.size + 1 < w2.heap.size := by have := hb2.size; omega
      have hy2 : w.heap.size < w2.heap.size := by omega
      clear hb2
      replace hw2 := hide hw2
      go_wp2_with fail
      have g0 : w2.cell? ⟨w.heap.size, 0, none⟩ = some (.string ⟨#[]⟩) := by simp [go_sem, *]
      have g1 : w2.cell? ⟨w.heap.size, 1, none⟩ = some (.string ⟨#[]⟩) := by simp [go_sem, *]
      have g2 : w2.cell? ⟨w.heap.size, 2, none⟩ = some (.string ⟨#[]⟩) := by simp [go_sem, *]
      obtain ⟨q0, q1, q2⟩ := three_sets g0 g1 g2 (.string ⟨#[]⟩) (.string ⟨#[]⟩) (.string ⟨#[]⟩)
      exact bodyPost_ret (v := .tuple #[zv, .bool false]) (by simp [results, Tryz.results13, go_sem, q0, q1, q2, zv]) rfl (parsed_no (by simp [okV, hM]) rfl (((hw2.out.setCell (Nat.le_refl _) _).setCell (Nat.le_refl _) _).setCell (Nat.le_refl _) _))
    · skip
      refine (isMain_any x hx _).mono ?_
      rintro e w2 ⟨rfl, hb2⟩
      obtain ⟨hc2, hf2⟩ := bcell hb2
      have hw2 : Below w.heap.size w w2 := hw1.out.trans (hb2.mono hw1.out.size)
      have hz2 : w.heap.size + 1 < w2.heap.size := by have := hb2.size; omega
      have hy2 : w.heap.size < w2.heap.size := by omega
      clear hb2
      replace hw2 := hide hw2
      go_wp2_with fail
      cases hR : Ver.okR [48]
      · skip
        refine (isRevision_any [48] (by decide) _).mono ?_
        rintro e w3 ⟨rfl, hb3⟩
        obtain ⟨hc3, hf3⟩ := bcell hb3
        have hw3 : Below w.heap.size w w3 := hw2.out.trans (hb3.mono hw2.out.size)
        have hz3 : w.heap.size + 1 < w3.heap.size := by have := hb3.size; omega
        have hy3 : w.heap.size < w3.heap.size := by omega
        clear hb3
        replace hw3 := hide hw3
        go_wp2_with fail
        have g0 : w3.cell? ⟨w.heap.size, 0, none⟩ = some (.string ⟨#[]⟩) := by simp [go_sem, *]
        have g1 : w3.cell? ⟨w.heap.size, 1, none⟩ = some (.string ⟨#[]⟩) := by simp [go_sem, *]
        have g2 : w3.cell? ⟨w.heap.size, 2, none⟩ = some (.string ⟨#[]⟩) := by simp [go_sem, *]
        obtain ⟨q0, q1, q2⟩ := three_sets g0 g1 g2 (.string ⟨#[]⟩) (.string ⟨#[]⟩) (.string ⟨#[]⟩)
        exact bodyPost_ret (v := .tuple #[zv, .bool false]) (by simp [results, Tryz.results13, go_sem, q0, q1, q2, zv]) rfl (parsed_no (by simp [okV, hR]) rfl (((hw3.out.setCell (Nat.le_refl _) _).setCell (Nat.le_refl _) _).setCell (Nat.le_refl _) _))
      · skip
        refine (isRevision_any [48] (by decide) _).mono ?_
        rintro e w3 ⟨rfl, hb3⟩
        obtain ⟨hc3, hf3⟩ := bcell hb3
        have hw3 : Below w.heap.size w w3 := hw2.out.trans (hb3.mono hw2.out.size)
        have hz3 : w.heap.size + 1 < w3.heap.size := by have := hb3.size; omega
        have hy3 : w.heap.size < w3.heap.size := by omega
        clear hb3
        replace hw3 := hide hw3
        go_wp2_with fail
        have g0 : w3.cell? ⟨w.heap.size, 0, none⟩ = some (.string ⟨#[]⟩) := by simp [go_sem, *]
        have g1 : w3.cell? ⟨w.heap.size, 1, none⟩ = some (.string ⟨#[]⟩) := by simp [go_sem, *]
        have g2 : w3.cell? ⟨w.heap.size, 2, none⟩ = some (.string ⟨#[]⟩) := by simp [go_sem, *]
        obtain ⟨q0, q1, q2⟩ := three_sets g0 g1 g2 (.string ⟨[48].toArray⟩) (.string ⟨x.toArray⟩) (.string ⟨[48].toArray⟩)
        exact bodyPost_ret (v := .tuple #[.agg #[.string ⟨[48].toArray⟩, .string ⟨x.toArray⟩, .string ⟨[48].toArray⟩], .bool true]) (by simp [results, Tryz.results13, go_sem, q0, q1, q2]) rfl (parsed_yes (by simp [okV, hE, hM, hR]) rfl (((hw3.out.setCell (Nat.le_refl _) _).setCell (Nat.le_refl _) _).setCell (Nat.le_refl _) _))

set_option maxHeartbeats 2000000 in
theorem parse_n_d (x : List UInt8) (hx0 : 1 ≤ x.length) (hx : x.length ≤ 24) (h1 : Lib.indexByte x 58 = -1) (k : Nat) (hk : k < x.length) (h2 : Lib.lastIndexByte ⟨x.toArray⟩ 45 = k) (w : World) :
    Calls Tryz.prog 13 #[.string ⟨x.toArray⟩] w (Parsed [48] (x.take k) (x.drop (k + 1)) w) := by
  have hlM : (x.take k).length ≤ 24 := by rw [List.length_take]; omega
  have hlR : (x.drop (k + 1)).length ≤ 24 := by rw [List.length_drop]; omega
  have hs : ¬ (x.length : Int) < 1 := by omega
  have hs' : ¬ (24 : Int) < x.length := by omega
  have c1 : (0 : Int) ≤ ↑k := by omega
  have c2 : (↑k : Int) ≤ ↑x.length := by omega
  have c3 : (↑k : Int) + 1 ≤ ↑x.length := by omega
  go_enter Tryz.func13, Tryz.ntmps13
  go_wp2_with (first
    | (go_at_call 27; refine (cut_no _ h1 _).mono ?_; rintro e w' ⟨rfl, rfl⟩)
    | (go_at_call 28; refine (last_any _ hx _).mono ?_; rw [h2]; rintro e w' ⟨rfl, rfl⟩))
  go_region
  go_wp2_with fail
  simp only [list_ext_take, list_ext_drop]
  clear c1 c2 c3 hk h2
  generalize hgM : (x.take k) = M at *
  generalize hgR : (x.drop (k + 1)) = R at *
  clear hgM hgR
  clear hs hs'
  cases hE : Ver.okE [48]
  · skip
    refine (isEpoch_any [48] (by decide) _).mono ?_
    rintro e w1 ⟨rfl, hb1⟩
    obtain ⟨hc1, hf1⟩ := bcell hb1
    have hw1 : Below w.heap.size w w1 := by first | exact below_two hb1 | exact below_two_d hb1 | exact below_two_dd hb1
    have hz1 : w.heap.size + 1 < w1.heap.size := by have := hb1.size; simp at this; omega
    have hy1 : w.heap.size < w1.heap.size := by omega
    clear hb1
    replace hw1 := hide hw1
    go_wp2_with fail
    have g0 : w1.cell? ⟨w.heap.size, 0, none⟩ = some (.string ⟨#[]⟩) := by simp [go_sem, *]
    have g1 : w1.cell? ⟨w.heap.size, 1, none⟩ = some (.string ⟨#[]⟩) := by simp [go_sem, *]
    have g2 : w1.cell? ⟨w.heap.size, 2, none⟩ = some (.string ⟨#[]⟩) := by simp [go_sem, *]
    obtain ⟨q0, q1, q2⟩ := three_sets g0 g1 g2 (.string ⟨#[]⟩) (.string ⟨#[]⟩) (.string ⟨#[]⟩)
    exact bodyPost_ret (v := .tuple #[zv, .bool false]) (by simp [results, Tryz.results13, go_sem, q0, q1, q2, zv]) rfl (parsed_no (by simp [okV, hE]) rfl (((hw1.out.setCell (Nat.le_refl _) _).setCell (Nat.le_refl _) _).setCell (Nat.le_refl _) _))
  · skip
    refine (isEpoch_any [48] (by decide) _).mono ?_
    rintro e w1 ⟨rfl, hb1⟩
    obtain ⟨hc1, hf1⟩ := bcell hb1
    have hw1 : Below w.heap.size w w1 := by first | exact below_two hb1 | exact below_two_d hb1 | exact below_two_dd hb1
    have hz1 : w.heap.size + 1 < w1.heap.size := by have := hb1.size; simp at this; omega
    have hy1 : w.heap.size < w1.heap.size := by omega
    clear hb1
    replace hw1 := hide hw1
    go_wp2_with fail
    cases hM : Ver.okM M
    · skip
      refine (isMain_any M hlM _).mono ?_
      rintro e w2 ⟨rfl, hb2⟩
      obtain ⟨hc2, hf2⟩ := bcell hb2
      have hw2 : Below w.heap.size w w2 := hw1.out.trans (hb2.mono hw1.out.size)
      have hz2 : w.heap.size + 1 < w2.heap.size := by have := hb2.size; omega
      have hy2 : w.heap.size < w2.heap.size := by omega
      clear hb2
      replace hw2 := hide hw2
      go_wp2_with fail
      have g0 : w2.cell? ⟨w.heap.size, 0, none⟩ = some (.string ⟨#[]⟩) := by simp [go_sem, *]
      have g1 : w2.cell? ⟨w.heap.size, 1, none⟩ = some (.string ⟨#[]⟩) := by simp [go_sem, *]
      have g2 : w2.cell? ⟨w.heap.size, 2, none⟩ = some (.string ⟨#[]⟩) := by simp [go_sem, *]
      obtain ⟨q0, q1, q2⟩ := three_sets g0 g1 g2 (.string ⟨#[]⟩) (.string ⟨#[]⟩) (.string ⟨#[]⟩)
      exact bodyPost_ret (v := .tuple #[zv, .bool false]) (by simp [results, Tryz.results13, go_sem, q0, q1, q2, zv]) rfl (parsed_no (by simp [okV, hM]) rfl (((hw2.out.setCell (Nat.le_refl _) _).setCell (Nat.le_refl _) _).setCell (Nat.le_refl _) _))
    · skip
      refine (isMain_any M hlM _).mono ?_
      rintro e w2 ⟨rfl, hb2⟩
      obtain ⟨hc2, hf2⟩ := bcell hb2
      have hw2 : Below w.heap.size w w2 := hw1.out.trans (hb2.mono hw1.out.size)
      have hz2 : w.heap.size + 1 < w2.heap.size := by have := hb2.size; omega
      have hy2 : w.heap.size < w2.heap.size := by omega
      clear hb2
      replace hw2 := hide hw2
      go_wp2_with fail
      cases hR : Ver.okR R
      · skip
        refine (isRevision_any R hlR _).mono ?_
        rintro e w3 ⟨rfl, hb3⟩
        obtain ⟨hc3, hf3⟩ := bcell hb3
        have hw3 : Below w.heap.size w w3 := hw2.out.trans (hb3.mono hw2.out.size)
        have hz3 : w.heap.size + 1 < w3.heap.size := by have := hb3.size; omega
        have hy3 : w.heap.size < w3.heap.size := by omega
        clear hb3
        replace hw3 := hide hw3
        go_wp2_with fail
        have g0 : w3.cell? ⟨w.heap.size, 0, none⟩ = some (.string ⟨#[]⟩) := by simp [go_sem, *]
        have g1 : w3.cell? ⟨w.heap.size, 1, none⟩ = some (.string ⟨#[]⟩) := by simp [go_sem, *]
        have g2 : w3.cell? ⟨w.heap.size, 2, none⟩ = some (.string ⟨#[]⟩) := by simp [go_sem, *]
        obtain ⟨q0, q1, q2⟩ := three_sets g0 g1 g2 (.string ⟨#[]⟩) (.string ⟨#[]⟩) (.string ⟨#[]⟩)
        exact bodyPost_ret (v := .tuple #[zv, .bool false]) (by simp [results, Tryz.results13, go_sem, q0, q1, q2, zv]) rfl (parsed_no (by simp [okV, hR]) rfl (((hw3.out.setCell (Nat.le_refl _) _).setCell (Nat.le_refl _) _).setCell (Nat.le_refl _) _))
      · skip
        refine (isRevision_any R hlR _).mono ?_
        rintro e w3 ⟨rfl, hb3⟩
        obtain ⟨hc3, hf3⟩ := bcell hb3
        have hw3 : Below w.heap.size w w3 := hw2.out.trans (hb3.mono hw2.out.size)
        have hz3 : w.heap.size + 1 < w3.heap.size := by have := hb3.size; omega
        have hy3 : w.heap.size < w3.heap.size := by omega
        clear hb3
        replace hw3 := hide hw3
        go_wp2_with fail
        have g0 : w3.cell? ⟨w.heap.size, 0, none⟩ = some (.string ⟨#[]⟩) := by simp [go_sem, *]
        have g1 : w3.cell? ⟨w.heap.size, 1, none⟩ = some (.string ⟨#[]⟩) := by simp [go_sem, *]
        have g2 : w3.cell? ⟨w.heap.size, 2, none⟩ = some (.string ⟨#[]⟩) := by simp [go_sem, *]
        obtain ⟨q0, q1, q2⟩ := three_sets g0 g1 g2 (.string ⟨[48].toArray⟩) (.string ⟨M.toArray⟩) (.string ⟨R.toArray⟩)
        exact bodyPost_ret (v := .tuple #[.agg #[.string ⟨[48].toArray⟩, .string ⟨M.toArray⟩, .string ⟨R.toArray⟩], .bool true]) (by simp [results, Tryz.results13, go_sem, q0, q1, q2]) rfl (parsed_yes (by simp [okV, hE, hM, hR]) rfl (((hw3.out.setCell (Nat.le_refl _) _).setCell (Nat.le_refl _) _).setCell (Nat.le_refl _) _))

set_option maxHeartbeats 2000000 in
theorem parse_c_n (x : List UInt8) (hx0 : 1 ≤ x.length) (hx : x.length ≤ 24) (E m : List UInt8) (j : Nat) (hj : j < x.length) (h1 : Lib.indexByte x 58 = j) (hE' : x.take j = E) (hm' : x.drop (j + 1) = m) (hlE : E.length ≤ 24) (hlm : m.length ≤ 24) (h2 : Lib.lastIndexByte ⟨m.toArray⟩ 45 = -1) (w : World) :
    Calls Tryz.prog 13 #[.string ⟨x.toArray⟩] w (Parsed E m [48] w) := by
  have hs : ¬ (x.length : Int) < 1 := by omega
  have hs' : ¬ (24 : Int) < x.length := by omega
  go_enter Tryz.func13, Tryz.ntmps13
  go_wp2_with (first
    | (go_at_call 27; refine (cut_yes' x E m j hj hx h1 hE' hm' _).mono ?_; rintro e w' ⟨rfl, rfl⟩)
    | (go_at_call 28; refine (last_any _ hlm _).mono ?_; rw [h2]; rintro e w' ⟨rfl, rfl⟩))
  clear hs hs'
  cases hE : Ver.okE E
  · skip
    refine (isEpoch_any E hlE _).mono ?_
    rintro e w1 ⟨rfl, hb1⟩
    obtain ⟨hc1, hf1⟩ := bcell hb1
    have hw1 : Below w.heap.size w w1 := by first | exact below_two hb1 | exact below_two_d hb1 | exact below_two_dd hb1
    have hz1 : w.heap.size + 1 < w1.heap.size := by have := hb1.size; simp at this; omega
    have hy1 : w.heap.size < w1.heap.size := by omega
    clear hb1
    replace hw1 := hide hw1
    go_wp2_with fail
    have g0 : w1.cell? ⟨w.heap.size, 0, none⟩ = some (.string ⟨#[]⟩) := by simp [go_sem, *]
    have g1 : w1.cell? ⟨w.heap.size, 1, none⟩ = some (.string ⟨#[]⟩) := by simp [go_sem, *]
    have g2 : w1.cell? ⟨w.heap.size, 2, none⟩ = some (.string ⟨#[]⟩) := by simp [go_sem, *]
    obtain ⟨q0, q1, q2⟩ := three_sets g0 g1 g2 (.string ⟨#[]⟩) (.string ⟨#[]⟩) (.string ⟨#[]⟩)
    exact bodyPost_ret (v := .tuple #[zv, .bool false]) (by simp [results, Tryz.results13, go_sem, q0, q1, q2, zv]) rfl (parsed_no (by simp [okV, hE]) rfl (((hw1.out.setCell (Nat.le_refl _) _).setCell (Nat.le_refl _) _).setCell (Nat.le_refl _) _))
  · skip
    refine (isEpoch_any E hlE _).mono ?_
    rintro e w1 ⟨rfl, hb1⟩
    obtain ⟨hc1, hf1⟩ := bcell hb1
    have hw1 : Below w.heap.size w w1 := by first | exact below_two hb1 | exact below_two_d hb1 | exact below_two_dd hb1
    have hz1 : w.heap.size + 1 < w1.heap.size := by have := hb1.size; simp at this; omega
    have hy1 : w.heap.size < w1.heap.size := by omega
    clear hb1
    replace hw1 := hide hw1
    go_wp2_with fail
    cases hM : Ver.okM m
    · skip
      refine (isMain_any m hlm _).mono ?_
      rintro e w2 ⟨rfl, hb2⟩
      obtain ⟨hc2, hf2⟩ := bcell hb2
      have hw2 : Below w.heap.size w w2 := hw1.out.trans (hb2.mono hw1.out.size)
      have hz2 : w.heap.size + 1 < w2.heap.size := by have := hb2.size; omega
      have hy2 : w.heap.size < w2.heap.size := by omega
      clear hb2
      replace hw2 := hide hw2
      go_wp2_with fail
      have g0 : w2.cell? ⟨w.heap.size, 0, none⟩ = some (.string ⟨#[]⟩) := by simp [go_sem, *]
      have g1 : w2.cell? ⟨w.heap.size, 1, none⟩ = some (.string ⟨#[]⟩) := by simp [go_sem, *]
      have g2 : w2.cell? ⟨w.heap.size, 2, none⟩ = some (.string ⟨#[]⟩) := by simp [go_sem, *]
      obtain ⟨q0, q1, q2⟩ := three_sets g0 g1 g2 (.string ⟨#[]⟩) (.string ⟨#[]⟩) (.string ⟨#[]⟩)
      exact bodyPost_ret (v := .tuple #[zv, .bool false]) (by simp [results, Tryz.results13, go_sem, q0, q1, q2, zv]) rfl (parsed_no (by simp [okV, hM]) rfl (((hw2.out.setCell (Nat.le_refl _) _).setCell (Nat.le_refl _) _).setCell (Nat.le_refl _) _))
    · skip
      refine (isMain_any m hlm _).mono ?_
      rintro e w2 ⟨rfl, hb2⟩
      obtain ⟨hc2, hf2⟩ := bcell hb2
      have hw2 : Below w.heap.size w w2 := hw1.out.trans (hb2.mono hw1.out.size)
      have hz2 : w.heap.size + 1 < w2.heap.size := by have := hb2.size; omega
      have hy2 : w.heap.size < w2.heap.size := by omega
      clear hb2
      replace hw2 := hide hw2
      go_wp2_with fail
      cases hR : Ver.okR [48]
      · skip
        refine (isRevision_any [48] (by decide) _).mono ?_
        rintro e w3 ⟨rfl, hb3⟩
        obtain ⟨hc3, hf3⟩ := bcell hb3
        have hw3 : Below w.heap.size w w3 := hw2.out.trans (hb3.mono hw2.out.size)
        have hz3 : w.heap.size + 1 < w3.heap.size := by have := hb3.size; omega
        have hy3 : w.heap.size < w3.heap.size := by omega
        clear hb3
        replace hw3 := hide hw3
        go_wp2_with fail
        have g0 : w3.cell? ⟨w.heap.size, 0, none⟩ = some (.string ⟨#[]⟩) := by simp [go_sem, *]
        have g1 : w3.cell? ⟨w.heap.size, 1, none⟩ = some (.string ⟨#[]⟩) := by simp [go_sem, *]
        have g2 : w3.cell? ⟨w.heap.size, 2, none⟩ = some (.string ⟨#[]⟩) := by simp [go_sem, *]
        obtain ⟨q0, q1, q2⟩ := three_sets g0 g1 g2 (.string ⟨#[]⟩) (.string ⟨#[]⟩) (.string ⟨#[]⟩)
        exact bodyPost_ret (v := .tuple #[zv, .bool false]) (by simp [results, Tryz.results13, go_sem, q0, q1, q2, zv]) rfl (parsed_no (by simp [okV, hR]) rfl (((hw3.out.setCell (Nat.le_refl _) _).setCell (Nat.le_refl _) _).setCell (Nat.le_refl _) _))
      · skip
        refine (isRevision_any [48] (by decide) _).mono ?_
        rintro e w3 ⟨rfl, hb3⟩
        obtain ⟨hc3, hf3⟩ := bcell hb3
        have hw3 : Below w.heap.size w w3 := hw2.out.trans (hb3.mono hw2.out.size)
        have hz3 : w.heap.size + 1 < w3.heap.size := by have := hb3.size; omega
        have hy3 : w.heap.size < w3.heap.size := by omega
        clear hb3
        replace hw3 := hide hw3
        go_wp2_with fail
        have g0 : w3.cell? ⟨w.heap.size, 0, none⟩ = some (.string ⟨#[]⟩) := by simp [go_sem, *]
        have g1 : w3.cell? ⟨w.heap.size, 1, none⟩ = some (.string ⟨#[]⟩) := by simp [go_sem, *]
        have g2 : w3.cell? ⟨w.heap.size, 2, none⟩ = some (.string ⟨#[]⟩) := by simp [go_sem, *]
        obtain ⟨q0, q1, q2⟩ := three_sets g0 g1 g2 (.string ⟨E.toArray⟩) (.string ⟨m.toArray⟩) (.string ⟨[48].toArray⟩)
        exact bodyPost_ret (v := .tuple #[.agg #[.string ⟨E.toArray⟩, .string ⟨m.toArray⟩, .string ⟨[48].toArray⟩], .bool true]) (by simp [results, Tryz.results13, go_sem, q0, q1, q2]) rfl (parsed_yes (by simp [okV, hE, hM, hR]) rfl (((hw3.out.setCell (Nat.le_refl _) _).setCell (Nat.le_refl _) _).setCell (Nat.le_refl _) _))

set_option maxHeartbeats 2000000 in
theorem parse_c_d (x : List UInt8) (hx0 : 1 ≤ x.length) (hx : x.length ≤ 24) (E m : List UInt8) (j : Nat) (hj : j < x.length) (h1 : Lib.indexByte x 58 = j) (hE' : x.take j = E) (hm' : x.drop (j + 1) = m) (hlE : E.length ≤ 24) (hlm : m.length ≤ 24) (k : Nat) (hk : k < m.length) (h2 : Lib.lastIndexByte ⟨m.toArray⟩ 45 = k) (w : World) :
    Calls Tryz.prog 13 #[.string ⟨x.toArray⟩] w (Parsed E (m.take k) (m.drop (k + 1)) w) := by
  have hlM : (m.take k).length ≤ 24 := by rw [List.length_take]; omega
  have hlR : (m.drop (k + 1)).length ≤ 24 := by rw [List.length_drop]; omega
  have hs : ¬ (x.length : Int) < 1 := by omega
  have hs' : ¬ (24 : Int) < x.length := by omega
  have c1 : (0 : Int) ≤ ↑k := by omega
  have c2 : (↑k : Int) ≤ ↑m.length := by omega
  have c3 : (↑k : Int) + 1 ≤ ↑m.length := by omega
  go_enter Tryz.func13, Tryz.ntmps13
  go_wp2_with (first
    | (go_at_call 27; refine (cut_yes' x E m j hj hx h1 hE' hm' _).mono ?_; rintro e w' ⟨rfl, rfl⟩)
    | (go_at_call 28; refine (last_any _ hlm _).mono ?_; rw [h2]; rintro e w' ⟨rfl, rfl⟩))
  go_region
  go_wp2_with fail
  simp only [list_ext_take, list_ext_drop]
  clear c1 c2 c3 hk h2
  generalize hgM : (m.take k) = M at *
  generalize hgR : (m.drop (k + 1)) = R at *
  clear hgM hgR
  clear hs hs'
  cases hE : Ver.okE E
  · skip
    refine (isEpoch_any E hlE _).mono ?_
    rintro e w1 ⟨rfl, hb1⟩
    obtain ⟨hc1, hf1⟩ := bcell hb1
    have hw1 : Below w.heap.size w w1 := by first | exact below_two hb1 | exact below_two_d hb1 | exact below_two_dd hb1
    have hz1 : w.heap.size + 1 < w1.heap.size := by have := hb1.size; simp at this; omega
    have hy1 : w.heap.size < w1.heap.size := by omega
    clear hb1
    replace hw1 := hide hw1
    go_wp2_with fail
    have g0 : w1.cell? ⟨w.heap.size, 0, none⟩ = some (.string ⟨#[]⟩) := by simp [go_sem, *]
    have g1 : w1.cell? ⟨w.heap.size, 1, none⟩ = some (.string ⟨#[]⟩) := by simp [go_sem, *]
    have g2 : w1.cell? ⟨w.heap.size, 2, none⟩ = some (.string ⟨#[]⟩) := by simp [go_sem, *]
    obtain ⟨q0, q1, q2⟩ := three_sets g0 g1 g2 (.string ⟨#[]⟩) (.string ⟨#[]⟩) (.string ⟨#[]⟩)
    exact bodyPost_ret (v := .tuple #[zv, .bool false]) (by simp [results, Tryz.results13, go_sem, q0, q1, q2, zv]) rfl (parsed_no (by simp [okV, hE]) rfl (((hw1.out.setCell (Nat.le_refl _) _).setCell (Nat.le_refl _) _).setCell (Nat.le_refl _) _))
  · skip
    refine (isEpoch_any E hlE _).mono ?_
    rintro e w1 ⟨rfl, hb1⟩
    obtain ⟨hc1, hf1⟩ := bcell hb1
    have hw1 : Below w.heap.size w w1 := by first | exact below_two hb1 | exact below_two_d hb1 | exact below_two_dd hb1
    have hz1 : w.heap.size + 1 < w1.heap.size := by have := hb1.size; simp at this; omega
    have hy1 : w.heap.size < w1.heap.size := by omega
    clear hb1
    replace hw1 := hide hw1
    go_wp2_with fail
    cases hM : Ver.okM M
    · skip
      refine (isMain_any M hlM _).mono ?_
      rintro e w2 ⟨rfl, hb2⟩
      obtain ⟨hc2, hf2⟩ := bcell hb2
      have hw2 : Below w.heap.size w w2 := hw1.out.trans (hb2.mono hw1.out.size)
      have hz2 : w.heap.size + 1 < w2.heap.size := by have := hb2.size; omega
      have hy2 : w.heap.size < w2.heap.size := by omega
      clear hb2
      replace hw2 := hide hw2
      go_wp2_with fail
      have g0 : w2.cell? ⟨w.heap.size, 0, none⟩ = some (.string ⟨#[]⟩) := by simp [go_sem, *]
      have g1 : w2.cell? ⟨w.heap.size, 1, none⟩ = some (.string ⟨#[]⟩) := by simp [go_sem, *]
      have g2 : w2.cell? ⟨w.heap.size, 2, none⟩ = some (.string ⟨#[]⟩) := by simp [go_sem, *]
      obtain ⟨q0, q1, q2⟩ := three_sets g0 g1 g2 (.string ⟨#[]⟩) (.string ⟨#[]⟩) (.string ⟨#[]⟩)
      exact bodyPost_ret (v := .tuple #[zv, .bool false]) (by simp [results, Tryz.results13, go_sem, q0, q1, q2, zv]) rfl (parsed_no (by simp [okV, hM]) rfl (((hw2.out.setCell (Nat.le_refl _) _).setCell (Nat.le_refl _) _).setCell (Nat.le_refl _) _))
    · skip
      refine (isMain_any M hlM _).mono ?_
      rintro e w2 ⟨rfl, hb2⟩
      obtain ⟨hc2, hf2⟩ := bcell hb2
      have hw2 : Below w.heap.size w w2 := hw1.out.trans (hb2.mono hw1.out.size)
      have hz2 : w.heap.size + 1 < w2.heap.size := by have := hb2.size; omega
      have hy2 : w.heap.size < w2.heap.size := by omega
      clear hb2
      replace hw2 := hide hw2
      go_wp2_with fail
      cases hR : Ver.okR R
      · skip
        refine (isRevision_any R hlR _).mono ?_
        rintro e w3 ⟨rfl, hb3⟩
        obtain ⟨hc3, hf3⟩ := bcell hb3
        have hw3 : Below w.heap.size w w3 := hw2.out.trans (hb3.mono hw2.out.size)
        have hz3 : w.heap.size + 1 < w3.heap.size := by have := hb3.size; omega
        have hy3 : w.heap.size < w3.heap.size := by omega
        clear hb3
        replace hw3 := hide hw3
        go_wp2_with fail
        have g0 : w3.cell? ⟨w.heap.size, 0, none⟩ = some (.string ⟨#[]⟩) := by simp [go_sem, *]
        have g1 : w3.cell? ⟨w.heap.size, 1, none⟩ = some (.string ⟨#[]⟩) := by simp [go_sem, *]
        have g2 : w3.cell? ⟨w.heap.size, 2, none⟩ = some (.string ⟨#[]⟩) := by simp [go_sem, *]
        obtain ⟨q0, q1, q2⟩ := three_sets g0 g1 g2 (.string ⟨#[]⟩) (.string ⟨#[]⟩) (.string ⟨#[]⟩)
        exact bodyPost_ret (v := .tuple #[zv, .bool false]) (by simp [results, Tryz.results13, go_sem, q0, q1, q2, zv]) rfl (parsed_no (by simp [okV, hR]) rfl (((hw3.out.setCell (Nat.le_refl _) _).setCell (Nat.le_refl _) _).setCell (Nat.le_refl _) _))
      · skip
        refine (isRevision_any R hlR _).mono ?_
        rintro e w3 ⟨rfl, hb3⟩
        obtain ⟨hc3, hf3⟩ := bcell hb3
        have hw3 : Below w.heap.size w w3 := hw2.out.trans (hb3.mono hw2.out.size)
        have hz3 : w.heap.size + 1 < w3.heap.size := by have := hb3.size; omega
        have hy3 : w.heap.size < w3.heap.size := by omega
        clear hb3
        replace hw3 := hide hw3
        go_wp2_with fail
        have g0 : w3.cell? ⟨w.heap.size, 0, none⟩ = some (.string ⟨#[]⟩) := by simp [go_sem, *]
        have g1 : w3.cell? ⟨w.heap.size, 1, none⟩ = some (.string ⟨#[]⟩) := by simp [go_sem, *]
        have g2 : w3.cell? ⟨w.heap.size, 2, none⟩ = some (.string ⟨#[]⟩) := by simp [go_sem, *]
        obtain ⟨q0, q1, q2⟩ := three_sets g0 g1 g2 (.string ⟨E.toArray⟩) (.string ⟨M.toArray⟩) (.string ⟨R.toArray⟩)
        exact bodyPost_ret (v := .tuple #[.agg #[.string ⟨E.toArray⟩, .string ⟨M.toArray⟩, .string ⟨R.toArray⟩], .bool true]) (by simp [results, Tryz.results13, go_sem, q0, q1, q2]) rfl (parsed_yes (by simp [okV, hE, hM, hR]) rfl (((hw3.out.setCell (Nat.le_refl _) _).setCell (Nat.le_refl _) _).setCell (Nat.le_refl _) _))
end Go.Proofs.YtgdmgmklncmanaaGreatDoor
