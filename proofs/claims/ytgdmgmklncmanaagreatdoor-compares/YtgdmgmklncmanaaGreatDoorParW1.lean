/- What a parser holds in memory: its block, and six rows of its own. -/
import Derived.Test.YtgdmgmklncmanaaGreatDoorSizeW1
namespace Go.Proofs.YtgdmgmklncmanaaGreatDoor
open Go.RowKit
open Arc (St Cmd S)

def strV (x : S) : Value := .string ⟨x.toArray⟩
def pty : Fin 6 → TypeId
  | 0 => 152 | 1 => 9 | 2 => 9 | 3 => 102 | 4 => 143 | 5 => 143
def psz : Fin 6 → Nat
  | 0 => 2 | 1 => 1 | 2 => 1 | 3 => 2 | 4 => 4 | 5 => 4
def pairV (p : S × S) : List Value := [strV p.1, strV p.2]
def cmdV (c : Cmd) : List Value := [.int .i64 c.verb, strV c.path, strV c.word, strV c.frm]
def prow (st : St) : Fin 6 → Nat × List Value
  | 0 => (st.needs.length, st.needs.flatMap pairV) | 1 => (st.breaks.length, st.breaks.map strV) | 2 => (st.wakes.length, st.wakes.map strV)
  | 3 => (st.files.length, st.files.flatMap pairV) | 4 => (st.runs.length, st.runs.flatMap cmdV) | 5 => (st.wokens.length, st.wokens.flatMap cmdV)
/-- The slice i becomes v. -/
def sset (sl : Fin 6 → Value) (i : Fin 6) (v : Value) : Fin 6 → Value := fun j => if j = i then v else sl j
def pcells (nm ve : S) (sl : Fin 6 → Value) (left : S) : Array Value := #[strV nm, strV ve, sl 0, sl 1, sl 2, sl 3, sl 4, sl 5, strV left]

structure PIn (pb : Nat) (nm ve : S) (st : St) (sl : Fin 6 → Value) (w : World) : Prop where
  blk : w.heap[pb]? = some (.cells (pcells nm ve sl st.left) 100 (0, 0))
  own : ∀ i, w.ownsRow (pb + 1) (pty i) (psz i) (sl i) (prow st i).1 (prow st i).2
  apart : ∀ i j, i ≠ j → ∀ g, (sl i).ownBlock = some g → (sl j).ownBlock ≠ some g

theorem own_below {w w' : World} {B e size n : Nat} {v : Value} {xs : List Value} (h : w.ownsRow B e size v n xs) (hb : Below w.heap.size w w') : w'.ownsRow B e size v n xs := by
  refine ⟨h.1, ?_⟩
  rcases h.2 with hn | ⟨g, cap, cur, rfl, hg, hgg, rest⟩
  · exact .inl hn
  · exact .inr ⟨g, cap, cur, rfl, hg, by rw [hb.block g (Array.getElem?_eq_some_iff.1 hgg).1]; exact hgg, rest⟩
theorem own_form {w : World} {base size : Nat} {t : TypeId} {v : Value} {n : Nat} {xs : List Value} (h : w.ownsRow base t size v n xs) (hn : 0 < n) : ∃ g cap, v = .slice (some ⟨g, 0, none⟩) n cap := by
  rcases h.2 with ⟨_, h⟩ | ⟨g, cap, _, h, _⟩
  · omega
  · exact ⟨g, cap, h⟩
theorem PIn.lt {pb : Nat} {nm ve : S} {st : St} {sl : Fin 6 → Value} {w : World} (h : PIn pb nm ve st sl w) : pb < w.heap.size := (Array.getElem?_eq_some_iff.1 h.blk).1
theorem PIn.below {pb : Nat} {nm ve : S} {st : St} {sl : Fin 6 → Value} {w w' : World} (h : PIn pb nm ve st sl w) (hb : Below w.heap.size w w') : PIn pb nm ve st sl w' :=
  ⟨(hb.block _ h.lt).trans h.blk, fun i => own_below (h.own i) hb, h.apart⟩
theorem PIn.drew {pb : Nat} {nm ve : S} {st : St} {sl : Fin 6 → Value} {w : World} (h : PIn pb nm ve st sl w) : PIn pb nm ve st sl w.drew := ⟨h.blk, h.own, h.apart⟩
theorem PIn.drewN {pb : Nat} {nm ve : S} {st : St} {sl : Fin 6 → Value} {w : World} (h : PIn pb nm ve st sl w) (n : Nat) : PIn pb nm ve st sl (w.drewN n) := ⟨h.blk, h.own, h.apart⟩
theorem PIn.alloc {pb : Nat} {nm ve : S} {st : St} {sl : Fin 6 → Value} {w : World} (h : PIn pb nm ve st sl w) (o : Obj) : PIn pb nm ve st sl (w.alloc o) := h.below ((Below.refl _ w).alloc (Nat.le_refl _) o)
/-- The contents become another text. -/
theorem PIn.left {pb : Nat} {nm ve : S} {st : St} {sl : Fin 6 → Value} {w : World} (h : PIn pb nm ve st sl w) (x : S) : PIn pb nm ve { st with left := x } sl (w.setCell ⟨pb, 8, none⟩ (strV x)) :=
  ⟨heap_setCell_same _ pb 8 _ _ _ h.blk, fun i => by
    have := ownsRow_setCell_below (h.own i) (a := ⟨pb, 8, none⟩) (by simp) (strV x)
    cases i using Fin.cases <;> exact this, h.apart⟩
theorem PIn.names {pb : Nat} {nm ve : S} {st : St} {sl : Fin 6 → Value} {w : World} (h : PIn pb nm ve st sl w) (x y : S) : PIn pb x y st sl ((w.setCell ⟨pb, 0, none⟩ (strV x)).setCell ⟨pb, 1, none⟩ (strV y)) :=
  ⟨heap_setCell_same _ pb 1 _ _ _ (heap_setCell_same _ pb 0 _ _ _ h.blk), fun i => ownsRow_setCell_below (ownsRow_setCell_below (h.own i) (a := ⟨pb, 0, none⟩) (by simp) _) (a := ⟨pb, 1, none⟩) (by simp) _, h.apart⟩
/-- The parser's block behind an append onto one of its rows. -/
theorem PIn.kept {pb : Nat} {nm ve : S} {st : St} {sl : Fin 6 → Value} {w w' : World} (h : PIn pb nm ve st sl w) (i : Fin 6) (hg : w.grownBy w' (sl i).ownBlock) : w'.heap[pb]? = some (.cells (pcells nm ve sl st.left) 100 (0, 0)) := by
  refine (hg.block pb h.lt fun e => ?_).trans h.blk
  have := ((h.own i).lt pb e.symm).1
  omega
theorem pcells_set (nm ve : S) (sl : Fin 6 → Value) (left : S) (i : Fin 6) (v : Value) : (pcells nm ve sl left).setIfInBounds (2 + i.val) v = pcells nm ve (sset sl i v) left := by
  match i with
  | 0 => rfl
  | 1 => rfl
  | 2 => rfl
  | 3 => rfl
  | 4 => rfl
  | 5 => rfl
/-- An append onto the row i, and the store of its slice. -/
theorem PIn.put {pb : Nat} {nm ve : S} {st st' : St} {sl : Fin 6 → Value} {w w' : World} (h : PIn pb nm ve st sl w) (i : Fin 6) {v' : Value} (hg : w.grownBy w' (sl i).ownBlock)
    (hown : w'.ownsRow (pb + 1) (pty i) (psz i) v' (prow st' i).1 (prow st' i).2) (hblk : v'.ownBlock = (sl i).ownBlock ∨ v'.ownBlock = some w.heap.size) (hst : ∀ j, j ≠ i → prow st' j = prow st j) (hl : st'.left = st.left) :
    PIn pb nm ve st' (sset sl i v') (w'.setCell ⟨pb, 2 + i.val, none⟩ v') := by
  refine ⟨?_, fun j => ?_, fun j k hjk g hj hk => ?_⟩
  · rw [hl, ← pcells_set]
    exact heap_setCell_same _ pb (2 + i.val) _ _ v' (h.kept i hg)
  · refine ownsRow_setCell_below ?_ (by simp) _
    by_cases e : j = i
    · subst e; simp only [sset, if_pos]; exact hown
    · simp only [sset, if_neg e]
      rw [hst j e]
      refine (h.own j).kept hg ?_
      cases hj : (sl j).ownBlock with
      | none => exact .inl rfl
      | some g => exact .inr fun e2 => h.apart j i e g hj e2.symm
  · have new : ∀ m : Fin 6, m ≠ i → (sl m).ownBlock = some g → v'.ownBlock ≠ some g := by
      intro m hm e1 e2
      rcases hblk with e3 | e3
      · exact h.apart m i hm g e1 (e3 ▸ e2)
      · have := ((h.own m).lt g e1).2
        rw [e3] at e2; cases e2; omega
    by_cases e : j = i
    · subst e
      simp only [sset, if_pos] at hj
      simp only [sset, if_neg (Ne.symm hjk)] at hk
      exact new k (Ne.symm hjk) hk hj
    · simp only [sset, if_neg e] at hj
      by_cases e2 : k = i
      · subst e2
        simp only [sset, if_pos] at hk
        exact new j e hj hk
      · simp only [sset, if_neg e2] at hk
        exact h.apart j k hjk g hj hk
end Go.Proofs.YtgdmgmklncmanaaGreatDoor
