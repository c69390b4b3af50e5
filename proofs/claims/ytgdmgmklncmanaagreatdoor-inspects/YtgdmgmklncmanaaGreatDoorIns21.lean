/- Of Ins: RlW1, RlW2. -/
import Derived.Test.YtgdmgmklncmanaaGreatDoorIns20
import Derived.Test.YtgdmgmklncmanaaGreatDoorIns13
import Derived.Test.YtgdmgmklncmanaaGreatDoorIns17
/- What the document's own reading holds in memory: the archive's block, and eight rows of its own; its commands, whole. -/
namespace Go.Proofs.YtgdmgmklncmanaaGreatDoor
open Go.RowKit
open Arc (RSt RCmd S)

theorem rcommand_any (ao : Option Addr) (g o c : Nat) (ws : List S) (hw : ∀ x ∈ ws, x.length ≤ 2000) (woken : Bool) (w : World)
    (hs : 2 ≤ ws.length → ao = some ⟨g, o, none⟩ ∧ g < w.heap.size) (hc : ∀ j x, ws[j]? = some x → w.cell? ⟨g, o + j, none⟩ = some (.string ⟨x.toArray⟩)) :
    Calls Tryz.prog 49 #[.slice ao ws.length c, .bool woken] w fun e w' => e = .returned (rcmdR (Arc.rcmd woken ws)) ∧ Below w.heap.size w w' := by
  match ws, hw, hs, hc with
  | [], _, _, _ => exact rcommand_few ao 0 c (by omega) woken w
  | [v], _, _, _ => exact rcommand_few ao 1 c (by omega) woken w
  | v :: p :: rest, hw, hs, hc =>
    obtain ⟨rfl, hg⟩ := hs (by simp)
    have c0 := hc 0 v rfl
    have c1 := hc 1 p rfl
    have hp := hw p (by simp)
    have hn : 2 ≤ (v :: p :: rest).length := by simp
    rcases vb_cases v with hv | rfl | rfl | rfl | rfl | rfl
    · have e : Arc.rcmd woken (v :: p :: rest) = (⟨v, p, [], []⟩, false) := by simp [Arc.rcmd, hv]
      rw [e]; exact rcommand_no g o c _ v p hp woken w hn hv hg c0 c1
    · match rest, hw, hc, hn with
      | [q], hw, hc, _ =>
        have e : Arc.rcmd woken [[112, 117, 116], p, q] = (⟨[112, 117, 116], p, [], q⟩, Wd.isPath p && Wd.isWord q && Wd.under p) := by simp [Arc.rcmd, Arc.vb]
        rw [e]; exact rcommand_put g o c p q hp (hw q (by simp)) woken w hg c0 c1 (hc 2 q rfl)
      | [], _, _, hn =>
        have e : Arc.rcmd woken [[112, 117, 116], p] = (⟨[112, 117, 116], p, [], []⟩, false) := by simp [Arc.rcmd, Arc.vb]
        rw [e]; exact rcommand_put_count g o c _ p hp woken w hn (by simp) hg c0 c1
      | x :: y :: l, _, _, hn =>
        have e : Arc.rcmd woken ([112, 117, 116] :: p :: x :: y :: l) = (⟨[112, 117, 116], p, [], []⟩, false) := by simp [Arc.rcmd, Arc.vb]
        rw [e]; exact rcommand_put_count g o c _ p hp woken w hn (by simp) hg c0 c1
    · match rest, hw, hc, hn with
      | [q], hw, hc, _ =>
        have e : Arc.rcmd woken [[97, 100, 100], p, q] = (⟨[97, 100, 100], p, [], q⟩, Wd.isPath p && Wd.isWord q && Wd.under p) := by simp [Arc.rcmd, Arc.vb]
        rw [e]; exact rcommand_add g o c p q hp (hw q (by simp)) woken w hg c0 c1 (hc 2 q rfl)
      | [], _, _, hn =>
        have e : Arc.rcmd woken [[97, 100, 100], p] = (⟨[97, 100, 100], p, [], []⟩, false) := by simp [Arc.rcmd, Arc.vb]
        rw [e]; exact rcommand_add_count g o c _ p hp woken w hn (by simp) hg c0 c1
      | x :: y :: l, _, _, hn =>
        have e : Arc.rcmd woken ([97, 100, 100] :: p :: x :: y :: l) = (⟨[97, 100, 100], p, [], []⟩, false) := by simp [Arc.rcmd, Arc.vb]
        rw [e]; exact rcommand_add_count g o c _ p hp woken w hn (by simp) hg c0 c1
    · match rest, hw, hc, hn with
      | [q], hw, hc, _ =>
        have e : Arc.rcmd woken [[99, 111, 112, 121], p, q] = (⟨[99, 111, 112, 121], p, q, []⟩, Wd.isPath p && Wd.isPath q && Wd.under q) := by simp [Arc.rcmd, Arc.vb]
        rw [e]; exact rcommand_copy g o c p q hp (hw q (by simp)) woken w hg c0 c1 (hc 2 q rfl)
      | [], _, _, hn =>
        have e : Arc.rcmd woken [[99, 111, 112, 121], p] = (⟨[99, 111, 112, 121], p, [], []⟩, false) := by simp [Arc.rcmd, Arc.vb]
        rw [e]; exact rcommand_copy_count g o c _ p hp woken w hn (by simp) hg c0 c1
      | x :: y :: l, _, _, hn =>
        have e : Arc.rcmd woken ([99, 111, 112, 121] :: p :: x :: y :: l) = (⟨[99, 111, 112, 121], p, [], []⟩, false) := by simp [Arc.rcmd, Arc.vb]
        rw [e]; exact rcommand_copy_count g o c _ p hp woken w hn (by simp) hg c0 c1
    · match rest, hw, hc, hn with
      | [], hw, hc, _ =>
        have e : Arc.rcmd woken [[100, 114, 111, 112], p] = (⟨[100, 114, 111, 112], p, [], []⟩, Wd.isPath p && Wd.under p) := by simp [Arc.rcmd, Arc.vb]
        rw [e]; exact rcommand_drop g o c p hp woken w hg c0 c1
      | x :: l, _, _, hn =>
        have e : Arc.rcmd woken ([100, 114, 111, 112] :: p :: x :: l) = (⟨[100, 114, 111, 112], p, [], []⟩, false) := by simp [Arc.rcmd, Arc.vb]
        rw [e]; exact rcommand_drop_count g o c _ p hp woken w hn (by simp) hg c0 c1
    · match rest, hw, hc, hn with
      | [], hw, hc, _ =>
        cases woken with
        | true =>
          have e : Arc.rcmd true [[108, 105, 115, 116], p] = (⟨[108, 105, 115, 116], p, [], []⟩, Wd.isPath p && Wd.under p) := by simp [Arc.rcmd, Arc.vb]
          rw [e]; exact rcommand_list g o c p hp w hg c0 c1
        | false =>
          have e : Arc.rcmd false [[108, 105, 115, 116], p] = (⟨[108, 105, 115, 116], p, [], []⟩, false) := by simp [Arc.rcmd, Arc.vb]
          rw [e]; exact rcommand_list_sleep g o c p hp w hg c0 c1
      | x :: l, _, _, hn =>
        have e : Arc.rcmd woken ([108, 105, 115, 116] :: p :: x :: l) = (⟨[108, 105, 115, 116], p, [], []⟩, false) := by simp [Arc.rcmd, Arc.vb]
        rw [e]; exact rcommand_list_count g o c _ p hp woken w hn (by simp) hg c0 c1

/-! ### The rows -/
def rty : Fin 8 → TypeId
  | 0 => 104 | 1 => 9 | 2 => 9 | 3 => 48 | 4 => 106 | 5 => 106 | 6 => 3 | 7 => 9
def rsz : Fin 8 → Nat
  | 0 => 2 | 1 => 1 | 2 => 1 | 3 => 2 | 4 => 4 | 5 => 4 | 6 => 1 | 7 => 1
def fileV (f : S × Int × S) : List Value := [strV f.1, strV []]
def rrow (st : RSt) : Fin 8 → Nat × List Value
  | 0 => (st.needs.length, st.needs.flatMap pairV) | 1 => (st.breaks.length, st.breaks.map strV) | 2 => (st.wakes.length, st.wakes.map strV)
  | 3 => (st.files.length, st.files.flatMap fileV) | 4 => (st.runs.length, st.runs.flatMap rcmdV) | 5 => (st.wokens.length, st.wokens.flatMap rcmdV)
  | 6 => (st.files.length, st.files.map fun f => .int .i64 f.2.1) | 7 => (st.files.length, st.files.map fun f => strV f.2.2)
def rset (sl : Fin 8 → Value) (i : Fin 8) (v : Value) : Fin 8 → Value := fun j => if j = i then v else sl j
def rcells (tx nm ve : S) (sl : Fin 8 → Value) : Array Value := #[strV tx, strV nm, strV ve, sl 0, sl 1, sl 2, sl 3, sl 4, sl 5]

structure RIn (ab : Nat) (tx : S) (st : RSt) (sl : Fin 8 → Value) (w : World) : Prop where
  blk : w.heap[ab]? = some (.cells (rcells tx st.name st.version sl) 46 (0, 0))
  own : ∀ i, w.ownsRow (ab + 1) (rty i) (rsz i) (sl i) (rrow st i).1 (rrow st i).2
  apart : ∀ i j, i ≠ j → ∀ g, (sl i).ownBlock = some g → (sl j).ownBlock ≠ some g
theorem RIn.lt {ab : Nat} {tx : S} {st : RSt} {sl : Fin 8 → Value} {w : World} (h : RIn ab tx st sl w) : ab < w.heap.size := (Array.getElem?_eq_some_iff.1 h.blk).1
theorem RIn.below {ab : Nat} {tx : S} {st : RSt} {sl : Fin 8 → Value} {w w' : World} (h : RIn ab tx st sl w) (hb : Below w.heap.size w w') : RIn ab tx st sl w' :=
  ⟨(hb.block _ h.lt).trans h.blk, fun i => own_below (h.own i) hb, h.apart⟩
theorem RIn.drew {ab : Nat} {tx : S} {st : RSt} {sl : Fin 8 → Value} {w : World} (h : RIn ab tx st sl w) : RIn ab tx st sl w.drew := ⟨h.blk, h.own, h.apart⟩
theorem RIn.drewN {ab : Nat} {tx : S} {st : RSt} {sl : Fin 8 → Value} {w : World} (h : RIn ab tx st sl w) (n : Nat) : RIn ab tx st sl (w.drewN n) := ⟨h.blk, h.own, h.apart⟩
theorem RIn.alloc {ab : Nat} {tx : S} {st : RSt} {sl : Fin 8 → Value} {w : World} (h : RIn ab tx st sl w) (o : Obj) : RIn ab tx st sl (w.alloc o) := h.below ((Below.refl _ w).alloc (Nat.le_refl _) o)
theorem RIn.name {ab : Nat} {tx : S} {st : RSt} {sl : Fin 8 → Value} {w : World} (h : RIn ab tx st sl w) (x : S) : RIn ab tx { st with name := x } sl (w.setCell ⟨ab, 1, none⟩ (strV x)) :=
  ⟨heap_setCell_same _ ab 1 _ _ _ h.blk, fun i => by
    have := ownsRow_setCell_below (h.own i) (a := ⟨ab, 1, none⟩) (by simp) (strV x)
    cases i using Fin.cases <;> exact this, h.apart⟩
theorem RIn.version {ab : Nat} {tx : S} {st : RSt} {sl : Fin 8 → Value} {w : World} (h : RIn ab tx st sl w) (x : S) : RIn ab tx { st with version := x } sl (w.setCell ⟨ab, 2, none⟩ (strV x)) :=
  ⟨heap_setCell_same _ ab 2 _ _ _ h.blk, fun i => by
    have := ownsRow_setCell_below (h.own i) (a := ⟨ab, 2, none⟩) (by simp) (strV x)
    cases i using Fin.cases <;> exact this, h.apart⟩
theorem RIn.kept {ab : Nat} {tx : S} {st : RSt} {sl : Fin 8 → Value} {w w' : World} (h : RIn ab tx st sl w) (i : Fin 8) (hg : w.grownBy w' (sl i).ownBlock) : w'.heap[ab]? = some (.cells (rcells tx st.name st.version sl) 46 (0, 0)) := by
  refine (hg.block ab h.lt fun e => ?_).trans h.blk
  have := ((h.own i).lt ab e.symm).1
  omega
theorem rcells_set (tx nm ve : S) (sl : Fin 8 → Value) (i : Fin 8) (hi : i.val < 6) (v : Value) : (rcells tx nm ve sl).setIfInBounds (3 + i.val) v = rcells tx nm ve (rset sl i v) := by
  match i, hi with
  | 0, _ => rfl
  | 1, _ => rfl
  | 2, _ => rfl
  | 3, _ => rfl
  | 4, _ => rfl
  | 5, _ => rfl
theorem rcells_far (tx nm ve : S) (sl : Fin 8 → Value) (i : Fin 8) (hi : 6 ≤ i.val) (v : Value) : rcells tx nm ve sl = rcells tx nm ve (rset sl i v) := by
  match i, hi with
  | 6, _ => rfl
  | 7, _ => rfl
theorem RIn.rows {ab : Nat} {tx : S} {st st' : RSt} {sl : Fin 8 → Value} {w w' : World} (h : RIn ab tx st sl w) (i : Fin 8) {v' : Value} (hg : w.grownBy w' (sl i).ownBlock)
    (hown : w'.ownsRow (ab + 1) (rty i) (rsz i) v' (rrow st' i).1 (rrow st' i).2) (hblk : v'.ownBlock = (sl i).ownBlock ∨ v'.ownBlock = some w.heap.size) (hst : ∀ j, j ≠ i → rrow st' j = rrow st j) :
    (∀ j, w'.ownsRow (ab + 1) (rty j) (rsz j) (rset sl i v' j) (rrow st' j).1 (rrow st' j).2) ∧ (∀ j k, j ≠ k → ∀ g, (rset sl i v' j).ownBlock = some g → (rset sl i v' k).ownBlock ≠ some g) := by
  refine ⟨fun j => ?_, fun j k hjk g hj hk => ?_⟩
  · by_cases e : j = i
    · subst e; simp only [rset, if_pos]; exact hown
    · simp only [rset, if_neg e]
      rw [hst j e]
      refine (h.own j).kept hg ?_
      cases hj : (sl j).ownBlock with
      | none => exact .inl rfl
      | some g => exact .inr fun e2 => h.apart j i e g hj e2.symm
  · have new : ∀ m : Fin 8, m ≠ i → (sl m).ownBlock = some g → v'.ownBlock ≠ some g := by
      intro m hm e1 e2
      rcases hblk with e3 | e3
      · exact h.apart m i hm g e1 (e3 ▸ e2)
      · have := ((h.own m).lt g e1).2
        rw [e3] at e2; cases e2; omega
    by_cases e : j = i
    · subst e
      simp only [rset, if_pos] at hj
      simp only [rset, if_neg (Ne.symm hjk)] at hk
      exact new k (Ne.symm hjk) hk hj
    · simp only [rset, if_neg e] at hj
      by_cases e2 : k = i
      · subst e2
        simp only [rset, if_pos] at hk
        exact new j e hj hk
      · simp only [rset, if_neg e2] at hk
        exact h.apart j k hjk g hj hk
/-- An append onto the row i of the archive's own, and the store of its slice. -/
theorem RIn.put {ab : Nat} {tx : S} {st st' : RSt} {sl : Fin 8 → Value} {w w' : World} (h : RIn ab tx st sl w) (i : Fin 8) (hi : i.val < 6) {v' : Value} (hg : w.grownBy w' (sl i).ownBlock)
    (hown : w'.ownsRow (ab + 1) (rty i) (rsz i) v' (rrow st' i).1 (rrow st' i).2) (hblk : v'.ownBlock = (sl i).ownBlock ∨ v'.ownBlock = some w.heap.size) (hst : ∀ j, j ≠ i → rrow st' j = rrow st j) (hn : st'.name = st.name) (hv : st'.version = st.version) :
    RIn ab tx st' (rset sl i v') (w'.setCell ⟨ab, 3 + i.val, none⟩ v') := by
  obtain ⟨h1, h2⟩ := h.rows i hg hown hblk hst
  refine ⟨?_, fun j => ownsRow_setCell_below (h1 j) (by simp) _, h2⟩
  rw [hn, hv, ← rcells_set _ _ _ _ i hi]
  exact heap_setCell_same _ ab (3 + i.val) _ _ v' (h.kept i hg)
/-- Where a word's block lies, none of the rows does. -/
def Off (ab q : Nat) (sl : Fin 8 → Value) (w : World) : Prop := q < w.heap.size ∧ q ≠ ab ∧ ∀ i, (sl i).ownBlock ≠ some q
/-- The words of a line. -/
def Words (q : Nat) (ws : List S) (w : World) : Prop := ∀ j x, ws[j]? = some x → w.cell? ⟨q, j, none⟩ = some (.string ⟨x.toArray⟩)
theorem Words.below {q : Nat} {ws : List S} {w w' : World} (h : Words q ws w) (hq : q < w.heap.size) (hb : Below w.heap.size w w') : Words q ws w' := fun j x hx => (hb.cell (p := ⟨q, j, none⟩) hq).trans (h j x hx)
end Go.Proofs.YtgdmgmklncmanaaGreatDoor
/- The walks over a line, the document's own answer: lines that are none, and the first three. (Written by tools/gen_rlw2.py.) -/
namespace Go.Proofs.YtgdmgmklncmanaaGreatDoor
open Go.RowKit
open Arc (RSt RCmd S)

/-- Which counts of words no kind of line has. -/
def noCount (k : Int) (n : Nat) : Bool := k == -1 || ((k == 2 || k == 4 || k == 5) && n != 2) || (k == 3 && n != 2 && n != 3) || (k == 6 && n != 4)
theorem rver_bool (y : S) (u : World) : Calls Tryz.prog 15 #[.string ⟨y.toArray⟩] u fun e w' => ∃ (E : Int) (M R : List UInt8), e = .returned (.tuple #[.agg #[.int .i64 E, .string ⟨M.toArray⟩, .string ⟨R.toArray⟩], .bool (Ver.fine y)]) ∧ Below u.heap.size u w' := by
  refine (rver_any y u).mono fun e w' he => ?_
  obtain ⟨E, M, R, ok, e1, e2, e3, e4⟩ := he
  subst e2
  exact ⟨E, M, R, e1, e3⟩

set_option maxRecDepth 100000 in
set_option maxHeartbeats 1000000 in
theorem rl_none_m1 (ab q n c : Nat) (x : S) (hk : rkd x = -1) (hn : 1 ≤ n) (s6 s7 : Value) (w : World) (c0 : w.cell? ⟨q, 0, none⟩ = some (.string ⟨x.toArray⟩)) :
    Calls Tryz.prog 23 #[.pointer (some ⟨ab, 0, none⟩), .slice (some ⟨q, 0, none⟩) n c, s6, s7] w fun e w' => e = .returned (.tuple #[s6, s7, .bool false]) ∧ Below w.heap.size w w' := by
  have hp : (0 : Int) < n := by omega
  have HK := hide hk
  clear hk
  go_enter Tryz.func23, Tryz.ntmps23
  go_wp2_with (first | (go_at_call 22; refine (rkind_any x _).mono ?_; rintro e w1 ⟨he, hb1⟩; rw [HK.out] at he; subst he))
  exact bodyPost_ret (v := .tuple #[s6, s7, .bool false]) (by simp [results, Tryz.results23, go_sem]) rfl ⟨rfl, hb1⟩

set_option maxRecDepth 100000 in
set_option maxHeartbeats 1000000 in
theorem rl_none_2 (ab q n c : Nat) (x : S) (hk : rkd x = 2) (hn : 1 ≤ n) (h : n ≠ 2) (s6 s7 : Value) (w : World) (c0 : w.cell? ⟨q, 0, none⟩ = some (.string ⟨x.toArray⟩)) :
    Calls Tryz.prog 23 #[.pointer (some ⟨ab, 0, none⟩), .slice (some ⟨q, 0, none⟩) n c, s6, s7] w fun e w' => e = .returned (.tuple #[s6, s7, .bool false]) ∧ Below w.heap.size w w' := by
  have hp : (0 : Int) < n := by omega
  have h2 : ((n : Int) == 2) = false := by simp; omega
  have HK := hide hk
  clear hk
  go_enter Tryz.func23, Tryz.ntmps23
  go_wp2_with (first | (go_at_call 22; refine (rkind_any x _).mono ?_; rintro e w1 ⟨he, hb1⟩; rw [HK.out] at he; subst he))
  exact bodyPost_ret (v := .tuple #[s6, s7, .bool false]) (by simp [results, Tryz.results23, go_sem]) rfl ⟨rfl, hb1⟩

set_option maxRecDepth 100000 in
set_option maxHeartbeats 1000000 in
theorem rl_none_4 (ab q n c : Nat) (x : S) (hk : rkd x = 4) (hn : 1 ≤ n) (h : n ≠ 2) (s6 s7 : Value) (w : World) (c0 : w.cell? ⟨q, 0, none⟩ = some (.string ⟨x.toArray⟩)) :
    Calls Tryz.prog 23 #[.pointer (some ⟨ab, 0, none⟩), .slice (some ⟨q, 0, none⟩) n c, s6, s7] w fun e w' => e = .returned (.tuple #[s6, s7, .bool false]) ∧ Below w.heap.size w w' := by
  have hp : (0 : Int) < n := by omega
  have h2 : ((n : Int) == 2) = false := by simp; omega
  have HK := hide hk
  clear hk
  go_enter Tryz.func23, Tryz.ntmps23
  go_wp2_with (first | (go_at_call 22; refine (rkind_any x _).mono ?_; rintro e w1 ⟨he, hb1⟩; rw [HK.out] at he; subst he))
  exact bodyPost_ret (v := .tuple #[s6, s7, .bool false]) (by simp [results, Tryz.results23, go_sem]) rfl ⟨rfl, hb1⟩

set_option maxRecDepth 100000 in
set_option maxHeartbeats 1000000 in
theorem rl_none_5 (ab q n c : Nat) (x : S) (hk : rkd x = 5) (hn : 1 ≤ n) (h : n ≠ 2) (s6 s7 : Value) (w : World) (c0 : w.cell? ⟨q, 0, none⟩ = some (.string ⟨x.toArray⟩)) :
    Calls Tryz.prog 23 #[.pointer (some ⟨ab, 0, none⟩), .slice (some ⟨q, 0, none⟩) n c, s6, s7] w fun e w' => e = .returned (.tuple #[s6, s7, .bool false]) ∧ Below w.heap.size w w' := by
  have hp : (0 : Int) < n := by omega
  have h2 : ((n : Int) == 2) = false := by simp; omega
  have HK := hide hk
  clear hk
  go_enter Tryz.func23, Tryz.ntmps23
  go_wp2_with (first | (go_at_call 22; refine (rkind_any x _).mono ?_; rintro e w1 ⟨he, hb1⟩; rw [HK.out] at he; subst he))
  exact bodyPost_ret (v := .tuple #[s6, s7, .bool false]) (by simp [results, Tryz.results23, go_sem]) rfl ⟨rfl, hb1⟩

set_option maxRecDepth 100000 in
set_option maxHeartbeats 1000000 in
theorem rl_none_3 (ab q n c : Nat) (x : S) (hk : rkd x = 3) (hn : 1 ≤ n) (h : n ≠ 2) (h' : n ≠ 3) (s6 s7 : Value) (w : World) (c0 : w.cell? ⟨q, 0, none⟩ = some (.string ⟨x.toArray⟩)) :
    Calls Tryz.prog 23 #[.pointer (some ⟨ab, 0, none⟩), .slice (some ⟨q, 0, none⟩) n c, s6, s7] w fun e w' => e = .returned (.tuple #[s6, s7, .bool false]) ∧ Below w.heap.size w w' := by
  have hp : (0 : Int) < n := by omega
  have h2 : ((n : Int) == 2) = false := by simp; omega
  have h3 : ((n : Int) == 3) = false := by simp; omega
  have HK := hide hk
  clear hk
  go_enter Tryz.func23, Tryz.ntmps23
  go_wp2_with (first | (go_at_call 22; refine (rkind_any x _).mono ?_; rintro e w1 ⟨he, hb1⟩; rw [HK.out] at he; subst he))
  exact bodyPost_ret (v := .tuple #[s6, s7, .bool false]) (by simp [results, Tryz.results23, go_sem]) rfl ⟨rfl, hb1⟩

set_option maxRecDepth 100000 in
set_option maxHeartbeats 1000000 in
theorem rl_none_6 (ab q n c : Nat) (x : S) (hk : rkd x = 6) (hn : 1 ≤ n) (h : n ≠ 4) (s6 s7 : Value) (w : World) (c0 : w.cell? ⟨q, 0, none⟩ = some (.string ⟨x.toArray⟩)) :
    Calls Tryz.prog 23 #[.pointer (some ⟨ab, 0, none⟩), .slice (some ⟨q, 0, none⟩) n c, s6, s7] w fun e w' => e = .returned (.tuple #[s6, s7, .bool false]) ∧ Below w.heap.size w w' := by
  have hp : (0 : Int) < n := by omega
  have h4 : ((n : Int) == 4) = false := by simp; omega
  have HK := hide hk
  clear hk
  go_enter Tryz.func23, Tryz.ntmps23
  go_wp2_with (first | (go_at_call 22; refine (rkind_any x _).mono ?_; rintro e w1 ⟨he, hb1⟩; rw [HK.out] at he; subst he))
  exact bodyPost_ret (v := .tuple #[s6, s7, .bool false]) (by simp [results, Tryz.results23, go_sem]) rfl ⟨rfl, hb1⟩

set_option maxRecDepth 100000 in
set_option maxHeartbeats 1000000 in
theorem rl_none_0 (ab q n c : Nat) (x : S) (hk : rkd x = 0) (hn : 1 ≤ n) (h : n ≠ 2) (s6 s7 : Value) (w : World) (c0 : w.cell? ⟨q, 0, none⟩ = some (.string ⟨x.toArray⟩)) :
    Calls Tryz.prog 23 #[.pointer (some ⟨ab, 0, none⟩), .slice (some ⟨q, 0, none⟩) n c, s6, s7] w fun e w' => e = .returned (.tuple #[s6, s7, .bool false]) ∧ Below w.heap.size w w' := by
  have hp : (0 : Int) < n := by omega
  have h2 : ((n : Int) == 2) = false := by simp; omega
  have HK := hide hk
  clear hk
  go_enter Tryz.func23, Tryz.ntmps23
  go_wp2_with (first | (go_at_call 22; refine (rkind_any x _).mono ?_; rintro e w1 ⟨he, hb1⟩; rw [HK.out] at he; subst he))
  exact bodyPost_ret (v := .tuple #[s6, s7, .bool false]) (by simp [results, Tryz.results23, go_sem]) rfl ⟨rfl, hb1⟩

set_option maxRecDepth 100000 in
set_option maxHeartbeats 1000000 in
theorem rl_none_1 (ab q n c : Nat) (x : S) (hk : rkd x = 1) (hn : 1 ≤ n) (h : n ≠ 2) (s6 s7 : Value) (w : World) (c0 : w.cell? ⟨q, 0, none⟩ = some (.string ⟨x.toArray⟩)) :
    Calls Tryz.prog 23 #[.pointer (some ⟨ab, 0, none⟩), .slice (some ⟨q, 0, none⟩) n c, s6, s7] w fun e w' => e = .returned (.tuple #[s6, s7, .bool false]) ∧ Below w.heap.size w w' := by
  have hp : (0 : Int) < n := by omega
  have h2 : ((n : Int) == 2) = false := by simp; omega
  have HK := hide hk
  clear hk
  go_enter Tryz.func23, Tryz.ntmps23
  go_wp2_with (first | (go_at_call 22; refine (rkind_any x _).mono ?_; rintro e w1 ⟨he, hb1⟩; rw [HK.out] at he; subst he))
  exact bodyPost_ret (v := .tuple #[s6, s7, .bool false]) (by simp [results, Tryz.results23, go_sem]) rfl ⟨rfl, hb1⟩

set_option maxRecDepth 100000 in
set_option maxHeartbeats 1000000 in
theorem rl_haven (ab q c : Nat) (x y : S) (hk : rkd x = 0) (s6 s7 : Value) (w : World) (hq : q < w.heap.size) (c0 : w.cell? ⟨q, 0, none⟩ = some (.string ⟨x.toArray⟩)) (c1 : w.cell? ⟨q, 1, none⟩ = some (.string ⟨y.toArray⟩)) :
    Calls Tryz.prog 23 #[.pointer (some ⟨ab, 0, none⟩), .slice (some ⟨q, 0, none⟩) 2 c, s6, s7] w fun e w' => e = .returned (.tuple #[s6, s7, .bool (y == [49])]) ∧ Below w.heap.size w w' := by
  have HK := hide hk
  clear hk
  go_enter Tryz.func23, Tryz.ntmps23
  go_wp2_with (first | (go_at_call 22; refine (rkind_any x _).mono ?_; rintro e w1 ⟨he, hb1⟩; rw [HK.out] at he; subst he; have d1 := (hb1.cell (p := ⟨q, 1, none⟩) hq).trans c1))
  exact bodyPost_ret (v := .tuple #[s6, s7, .bool (y == [49])]) (by simp [results, Tryz.results23, go_sem]) rfl ⟨rfl, hb1⟩

set_option maxRecDepth 100000 in
set_option maxHeartbeats 1000000 in
theorem rl_name (ab q c : Nat) (tx : S) (st : RSt) (sl : Fin 8 → Value) (x y : S) (hk : rkd x = 1) (hy : y.length ≤ 2000) (s6 s7 : Value) (w : World) (h : RIn ab tx st sl w) (hq : q < w.heap.size) (hqa : q ≠ ab) (c0 : w.cell? ⟨q, 0, none⟩ = some (.string ⟨x.toArray⟩)) (c1 : w.cell? ⟨q, 1, none⟩ = some (.string ⟨y.toArray⟩)) :
    Calls Tryz.prog 23 #[.pointer (some ⟨ab, 0, none⟩), .slice (some ⟨q, 0, none⟩) 2 c, s6, s7] w fun e w' => e = .returned (.tuple #[s6, s7, .bool (Wd.isName y)]) ∧ (Wd.isName y = true → RIn ab tx { st with name := y } sl w') ∧ Below ab w w' := by
  have HK := hide hk
  have H := hide h
  have hlt := h.lt
  clear hk h
  have hqa' : ¬ ab = q := fun e => hqa e.symm
  cases hy1 : Wd.isName y
  · go_enter Tryz.func23, Tryz.ntmps23
    go_wp2_with (first
      | (go_at_call 22; refine (rkind_any x _).mono ?_; rintro e w1 ⟨he, hb1⟩; rw [HK.out] at he; subst he; have d1 := (hb1.cell (p := ⟨q, 1, none⟩) hq).trans c1)
      | (go_at_call 45; refine (rIsName_any y hy _).mono ?_; rintro e w' ⟨he, rfl⟩; rw [hy1] at he; subst he))
    exact bodyPost_ret (v := .tuple #[s6, s7, .bool false]) (by simp [results, Tryz.results23, go_sem]) rfl ⟨rfl, (fun h => by cases h), hb1.mono (Nat.le_of_lt hlt)⟩
  · go_enter Tryz.func23, Tryz.ntmps23
    go_wp2_with (first
      | (go_at_call 22; refine (rkind_any x _).mono ?_; rintro e w1 ⟨he, hb1⟩; rw [HK.out] at he; subst he; have d1 := (hb1.cell (p := ⟨q, 1, none⟩) hq).trans c1; have H1 := hide (H.out.below hb1); have k1 := row_cell H1.out.blk 1; have f1 := row_free H1.out.blk 1; have k1' := k1.trans (show _ = some (strV st.name) from rfl); clear k1)
      | (go_at_call 45; refine (rIsName_any y hy _).mono ?_; rintro e w' ⟨he, rfl⟩; rw [hy1] at he; subst he))
    exact bodyPost_ret (v := .tuple #[s6, s7, .bool true]) (by simp [results, Tryz.results23, go_sem]) rfl ⟨rfl, (fun _ => H1.out.name y), (hb1.mono (Nat.le_of_lt hlt)).setCell (p := ⟨ab, 1, none⟩) (Nat.le_refl _) _⟩

set_option maxRecDepth 100000 in
set_option maxHeartbeats 1000000 in
theorem rl_version (ab q c : Nat) (tx : S) (st : RSt) (sl : Fin 8 → Value) (x y : S) (hk : rkd x = 2) (s6 s7 : Value) (w : World) (h : RIn ab tx st sl w) (hq : q < w.heap.size) (hqa : q ≠ ab) (c0 : w.cell? ⟨q, 0, none⟩ = some (.string ⟨x.toArray⟩)) (c1 : w.cell? ⟨q, 1, none⟩ = some (.string ⟨y.toArray⟩)) :
    Calls Tryz.prog 23 #[.pointer (some ⟨ab, 0, none⟩), .slice (some ⟨q, 0, none⟩) 2 c, s6, s7] w fun e w' => e = .returned (.tuple #[s6, s7, .bool (Ver.fine y)]) ∧ (Ver.fine y = true → RIn ab tx { st with version := y } sl w') ∧ Below ab w w' := by
  have HK := hide hk
  have H := hide h
  have hlt := h.lt
  clear hk h
  have hqa' : ¬ ab = q := fun e => hqa e.symm
  have HV : Hid (∀ u : World, Calls Tryz.prog 15 #[.string ⟨y.toArray⟩] u fun e w' => ∃ (E : Int) (M R : List UInt8), e = .returned (.tuple #[.agg #[.int .i64 E, .string ⟨M.toArray⟩, .string ⟨R.toArray⟩], .bool (Ver.fine y)]) ∧ Below u.heap.size u w') := hide fun u => rver_bool y u
  go_enter Tryz.func23, Tryz.ntmps23
  go_wp2_with (first
    | (go_at_call 22; refine (rkind_any x _).mono ?_; rintro e w1 ⟨he, hb1⟩; rw [HK.out] at he; subst he; have d1 := (hb1.cell (p := ⟨q, 1, none⟩) hq).trans c1; have H1 := hide (H.out.below hb1))
    | (go_at_call 15; refine (HV.out _).mono ?_; rintro e w2 ⟨E, M, R, rfl, hb2⟩; have H2 := hide (H1.out.below hb2); have d2 := (hb2.cell (p := ⟨q, 1, none⟩) (by have := hb1.size; show q < w1.heap.size; omega)).trans d1; have k1 := row_cell H2.out.blk 2; have f1 := row_free H2.out.blk 2; have k1' := k1.trans (show _ = some (strV st.version) from rfl); clear k1))
  exact bodyPost_ret (v := .tuple #[s6, s7, .bool (Ver.fine y)]) (by simp [results, Tryz.results23, go_sem]) rfl ⟨rfl, (fun _ => H2.out.version y), ((hb1.trans (hb2.mono hb1.size)).mono (Nat.le_of_lt hlt)).setCell (p := ⟨ab, 2, none⟩) (Nat.le_refl _) _⟩
end Go.Proofs.YtgdmgmklncmanaaGreatDoor
