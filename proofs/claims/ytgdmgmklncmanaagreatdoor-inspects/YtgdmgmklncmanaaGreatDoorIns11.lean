/- Of Ins: CmdW1, SizeW1, ParW1, ParW2. -/
import Derived.Test.YtgdmgmklncmanaaGreatDoorIns7
import Derived.Test.YtgdmgmklncmanaaGreatDoorIns10
import Derived.Test.YtgdmgmklncmanaaGreatDoorShelf2
import Derived.Shelf.Strings.SlTrimAscii
import Derived.BigQuiet
/- The walks over commands: a word that comes behind a file's content. -/
namespace Go.Proofs.YtgdmgmklncmanaaGreatDoor
open Go.RowKit

theorem cmd_set {w0 wr : World} {b : Nat} {t : TypeId} {a0 a1 a2 a3 : Value} (h : wr.heap[b]? = some (.cells #[a0, a1, a2, a3] t (0, 0))) (v : Value) :
    (wr.setCell ⟨b, 2, none⟩ v).heap[b]? = some (.cells #[a0, a1, v, a3] t (0, 0)) ∧ (wr.setCell ⟨b, 0, none⟩ v).heap[b]? = some (.cells #[v, a1, a2, a3] t (0, 0)) ∧ (Below w0.heap.size w0 wr → w0.heap.size ≤ b → Below w0.heap.size w0 (wr.setCell ⟨b, 2, none⟩ v)) :=
  ⟨heap_setCell_same _ b 2 _ _ v h, heap_setCell_same _ b 0 _ _ v h, fun hb hl => hb.setCell (p := ⟨b, 2, none⟩) hl v⟩

set_option maxHeartbeats 400000 in
theorem third_add (b g o c : Nat) (p q : List UInt8) (hq : q.length ≤ 2000) (w : World)
    (hb : w.heap[b]? = some (.cells #[.int .i64 2, .string ⟨p.toArray⟩, .string ⟨#[]⟩, .string ⟨#[]⟩] 143 (0, 0)))
    (h2 : w.cell? ⟨g, o + 2, none⟩ = some (.string ⟨q.toArray⟩)) :
    Calls Tryz.prog 114 #[.pointer (some ⟨b, 0, none⟩), .slice (some ⟨g, o, none⟩) 3 c] w fun e w' => e = .returned (.bool (Wd.isWord q)) ∧ Below (w.setCell ⟨b, 2, none⟩ (.string ⟨q.toArray⟩)).heap.size (w.setCell ⟨b, 2, none⟩ (.string ⟨q.toArray⟩)) w' := by
  have k0 := (row_cell hb 0).trans (show _ = some (.int .i64 2) from rfl)
  have k2 := (row_cell hb 2).trans (show _ = some (.string ⟨#[]⟩) from rfl)
  have f2 := row_free hb 2
  have HB := hide hb; clear hb
  go_enter Tryz.func114, Tryz.ntmps114
  go_wp2_with (go_at_call 126; refine (isWord_any q hq _).mono ?_; rintro e w' ⟨rfl, hbw⟩)
  go_ret
  exact ⟨rfl, hbw⟩

/-- A block of four cells. -/
theorem four_free {w : World} {b : Nat} {t : TypeId} {a0 a1 a2 a3 : Value} (h : w.heap[b]? = some (.cells #[a0, a1, a2, a3] t (0, 0))) :
    w.cell? ⟨b, 0, none⟩ = some a0 ∧ w.cell? ⟨b, 1, none⟩ = some a1 ∧ w.cell? ⟨b, 2, none⟩ = some a2 ∧ w.cell? ⟨b, 3, none⟩ = some a3 ∧ w.frozen? ⟨b, 0, none⟩ = false ∧ w.frozen? ⟨b, 1, none⟩ = false ∧ w.frozen? ⟨b, 2, none⟩ = false ∧ w.frozen? ⟨b, 3, none⟩ = false :=
  ⟨(row_cell h 0).trans rfl, (row_cell h 1).trans rfl, (row_cell h 2).trans rfl, (row_cell h 3).trans rfl, row_free h 0, row_free h 1, row_free h 2, row_free h 3⟩
structure CmdIn (w : World) (a b c d a' b' c' d' : Value) (w1 : World) : Prop where
  out : w1.heap[w.heap.size]? = some (.cells #[a, b, c, d] 143 (0, 0))
  cmd : w1.heap[w.heap.size + 1]? = some (.cells #[a', b', c', d'] 143 (0, 0))
  bel : Below w.heap.size w w1
theorem CmdIn.begin (w : World) (a b c d a' b' c' d' : Value) : CmdIn w a b c d a' b' c' d' ((w.alloc (.cells #[a, b, c, d] 143)).alloc (.cells #[a', b', c', d'] 143)) := by
  obtain ⟨h0, h1, h2⟩ := alloc2 w (.cells #[a, b, c, d] 143) (.cells #[a', b', c', d'] 143)
  exact ⟨h0, h1, h2⟩
theorem CmdIn.set2 {w w1 : World} {a b c d a' b' c' d' : Value} (h : CmdIn w a b c d a' b' c' d' w1) (v : Value) : CmdIn w a b c d a' b' v d' (w1.setCell ⟨w.heap.size + 1, 2, none⟩ v) :=
  ⟨(Below.heap_setCell _ _ _ _ (by simp)).trans h.out, heap_setCell_same _ _ 2 _ _ v h.cmd, h.bel.setCell (p := ⟨w.heap.size + 1, 2, none⟩) (by simp) v⟩
theorem CmdIn.on {w w1 w2 : World} {a b c d a' b' c' d' : Value} (h : CmdIn w a b c d a' b' c' d' w1) (hb : Below w1.heap.size w1 w2) : CmdIn w a b c d a' b' c' d' w2 := by
  have h1 : w.heap.size + 1 < w1.heap.size := (Array.getElem?_eq_some_iff.1 h.cmd).1
  exact ⟨(hb.block _ (by omega)).trans h.out, (hb.block _ h1).trans h.cmd, h.bel.trans (hb.mono (by omega))⟩
/-- What is told comes to the place of the result. -/
theorem CmdIn.told {w w1 : World} {a b c d a' b' c' d' : Value} (h : CmdIn w a b c d a' b' c' d' w1) : ∃ w2, w2 = (((w1.setCell ⟨w.heap.size, 0, none⟩ a').setCell ⟨w.heap.size, 1, none⟩ b').setCell ⟨w.heap.size, 2, none⟩ c').setCell ⟨w.heap.size, 3, none⟩ d' ∧
    w2.heap[w.heap.size]? = some (.cells #[a', b', c', d'] 143 (0, 0)) ∧ Below w.heap.size w w2 :=
  ⟨_, rfl, heap_setCell_same _ _ 3 _ _ d' (heap_setCell_same _ _ 2 _ _ c' (heap_setCell_same _ _ 1 _ _ b' (heap_setCell_same _ _ 0 _ _ a' h.out))), (((h.bel.setCell (p := ⟨w.heap.size, 0, none⟩) (Nat.le_refl _) _).setCell (p := ⟨w.heap.size, 1, none⟩) (Nat.le_refl _) _).setCell (p := ⟨w.heap.size, 2, none⟩) (Nat.le_refl _) _).setCell (p := ⟨w.heap.size, 3, none⟩) (Nat.le_refl _) _⟩

set_option maxHeartbeats 1000000 in
theorem command_add (g o c : Nat) (p q : List UInt8) (hq : q.length ≤ 2000) (hp : p.length ≤ 2000) (h1 : Wd.isWord q = true) (h2 : Wd.isVar p = true) (mx : Int) (w : World) (hg0 : 0 < w.heap.size) (hm : w.cell? ⟨0, 0, none⟩ = some (.int .i64 mx))
    (hg : g < w.heap.size) (c0 : w.cell? ⟨g, o, none⟩ = some (.string ⟨#[97, 100, 100]⟩)) (c1 : w.cell? ⟨g, o + 1, none⟩ = some (.string ⟨p.toArray⟩)) (c2 : w.cell? ⟨g, o + 2, none⟩ = some (.string ⟨q.toArray⟩)) :
    Calls Tryz.prog 95 #[.slice (some ⟨g, o, none⟩) 3 c] w fun e w' => e = .returned (.tuple #[.agg #[.int .i64 2, .string ⟨p.toArray⟩, .string ⟨q.toArray⟩, .string ⟨#[]⟩], .bool true]) ∧ Below w.heap.size w w' := by
  have HI := hide (CmdIn.begin w (.int .i64 0) (.string ⟨#[]⟩) (.string ⟨#[]⟩) (.string ⟨#[]⟩) (.int .i64 2) (.string ⟨p.toArray⟩) (.string ⟨#[]⟩) (.string ⟨#[]⟩))
  have HM := hide hm; clear hm
  have HC2 := hide c2; clear c2
  go_enter Tryz.func95, Tryz.ntmps95
  go_wp2_with (first
    | (go_at_call 114; refine (third_add _ g o c p q hq _ HI.out.cmd ((HI.out.bel.cell (p := ⟨g, o + 2, none⟩) hg).trans HC2.out)).mono ?_; rintro e w1 ⟨rfl, hb1⟩; have HI1 := hide ((HI.out.set2 (.string ⟨q.toArray⟩)).on hb1); obtain ⟨r0, r1, r2, r3, r4, r5, r6, r7⟩ := four_free HI1.out.cmd; clear hb1)
    | (go_at_call 115; refine (isVar_any p hp mx _ ((HI1.out.bel.cell (p := ⟨0, 0, none⟩) hg0).trans HM.out)).mono ?_; rintro e w2 ⟨rfl, hb2⟩; have HI2 := hide (HI1.out.on hb2); obtain ⟨s0, s1, s2, s3, s4, s5, s6, s7⟩ := four_free HI2.out.cmd; obtain ⟨t0, t1, t2, t3, t4, t5, t6, t7⟩ := four_free HI2.out.out; clear hb2))
  obtain ⟨w9, hw9, hrow, hbel⟩ := HI2.out.told
  obtain ⟨u0, u1, u2, u3, -⟩ := four_free hrow
  rw [hw9] at u0 u1 u2 u3 hbel
  exact bodyPost_ret (v := .tuple #[.agg #[.int .i64 2, .string ⟨p.toArray⟩, .string ⟨q.toArray⟩, .string ⟨#[]⟩], .bool true]) (by simp [results, Tryz.results95, go_sem, u0, u1, u2, u3]) rfl ⟨rfl, hbel⟩
end Go.Proofs.YtgdmgmklncmanaaGreatDoor
/- The walk over a size that is one. -/
namespace Go.Proofs.YtgdmgmklncmanaaGreatDoor
open Go.RowKit

def tenD : List UInt8 := [48, 49, 50, 51, 52, 53, 54, 55, 56, 57]
theorem trimD_any (x : List UInt8) (hx : x.length ≤ 2000) (w : World) :
    Calls Tryz.prog 120 #[.string ⟨x.toArray⟩, .string ⟨#[48, 49, 50, 51, 52, 53, 54, 55, 56, 57]⟩] w fun e w' => e = .returned (.string ⟨(Lib.trimS x tenD).toArray⟩) ∧ Below w.heap.size w w' :=
  Any.strings_Trim_laid Tryz.lays160 (by kernel_rfl) ⟨x.toArray⟩ ⟨#[48, 49, 50, 51, 52, 53, 54, 55, 56, 57]⟩ w (by simp [ByteArray.size]; omega) (by decide) (ascii_of_all (by decide))
theorem atoi_any (x : List UInt8) (n : Int) (hl : x.length ≤ 4) (h : Lib.atoi x = some n) (w : World) :
    Calls Tryz.prog 121 #[.string ⟨x.toArray⟩] w fun e w' => e = .returned (.tuple #[.int .i64 n, .nilIface]) ∧ Below w.heap.size w w' := by
  refine (Tryz.strconv_Atoi ⟨x.toArray⟩ n (by simp [ByteArray.size]; omega) h w).mono ?_
  rintro e w' ⟨rfl, t, rfl⟩
  exact ⟨rfl, below_bytesWorld w _ t⟩

set_option maxHeartbeats 400000 in
theorem size_ok (x : List UInt8) (n : Int) (h1 : 1 ≤ x.length) (h4 : x.length ≤ 4) (hd : Wd.headIs (fun c => (c.toNat : Int) == 48) x = false) (ht : Lib.trimS x tenD = []) (ha : Lib.atoi x = some n) (w : World) :
    Calls Tryz.prog 110 #[.string ⟨x.toArray⟩] w fun e w' => e = .returned (.tuple #[.int .i64 n, .bool true]) ∧ Below w.heap.size w w' := by
  obtain ⟨c0, hc0, hhead⟩ : ∃ c0, (⟨x.toArray⟩ : ByteArray)[0]'(by show 0 < x.length; omega) = c0 ∧ ∀ f, Wd.headIs f x = f c0 := by
    cases x with
    | nil => simp at h1
    | cons c l => exact ⟨c, rfl, fun _ => rfl⟩
  rw [hhead] at hd
  have he : (x == []) = false := by cases x with
    | nil => simp at h1
    | cons c l => rfl
  have b4 : ¬ (4 : Int) < x.length := by omega
  have hp : (0 : Int) < x.length := by omega
  have HA := hide ha; have HT := hide ht
  clear ha ht hhead
  go_enter Tryz.func110, Tryz.ntmps110
  go_wp2_with (first
    | (go_at_call 120; refine (trimD_any x (by omega) _).mono ?_; rintro e w1 ⟨he1, hb1⟩; rw [HT.out] at he1; subst he1)
    | (go_at_call 121; refine (atoi_any x n h4 HA.out _).mono ?_; rintro e w2 ⟨rfl, hb2⟩))
  go_quiet (fail)
  go_wp2_with fail
  go_ret2
  exact ⟨rfl, below_drewN (hb1.trans (hb2.mono hb1.size)) _⟩
end Go.Proofs.YtgdmgmklncmanaaGreatDoor
/- What a parser holds in memory: its block, and six rows of its own. -/
namespace Go.Proofs.YtgdmgmklncmanaaGreatDoor
open Go.RowKit
open Arc (St Cmd S)

def strV (x : S) : Value := .string ⟨x.toArray⟩
def pty : Fin 6 → TypeId
  | 0 => 152 | 1 => 9 | 2 => 9 | 3 => 102 | 4 => 143 | 5 => 143
def psz : Fin 6 → Nat
  | 0 => 2 | 1 => 1 | 2 => 1 | 3 => 2 | 4 => 4 | 5 => 4
def pairV (p : S × S) : List Value := [strV p.1, strV p.2]
def cmdV (c : Cmd) : List Value := [.int .i64 c.verb, strV c.path, strV c.word, strV c.frm]
def prow (st : St) : Fin 6 → Nat × List Value
  | 0 => (st.needs.length, st.needs.flatMap pairV) | 1 => (st.breaks.length, st.breaks.map strV) | 2 => (st.wakes.length, st.wakes.map strV)
  | 3 => (st.files.length, st.files.flatMap pairV) | 4 => (st.runs.length, st.runs.flatMap cmdV) | 5 => (st.wokens.length, st.wokens.flatMap cmdV)
/-- The slice i becomes v. -/
def sset (sl : Fin 6 → Value) (i : Fin 6) (v : Value) : Fin 6 → Value := fun j => if j = i then v else sl j
def pcells (nm ve : S) (sl : Fin 6 → Value) (left : S) : Array Value := #[strV nm, strV ve, sl 0, sl 1, sl 2, sl 3, sl 4, sl 5, strV left]

structure PIn (pb : Nat) (nm ve : S) (st : St) (sl : Fin 6 → Value) (w : World) : Prop where
  blk : w.heap[pb]? = some (.cells (pcells nm ve sl st.left) 100 (0, 0))
  own : ∀ i, w.ownsRow (pb + 1) (pty i) (psz i) (sl i) (prow st i).1 (prow st i).2
  apart : ∀ i j, i ≠ j → ∀ g, (sl i).ownBlock = some g → (sl j).ownBlock ≠ some g

theorem own_below {w w' : World} {B e size n : Nat} {v : Value} {xs : List Value} (h : w.ownsRow B e size v n xs) (hb : Below w.heap.size w w') : w'.ownsRow B e size v n xs := by
  refine ⟨h.1, ?_⟩
  rcases h.2 with hn | ⟨g, cap, cur, rfl, hg, hgg, rest⟩
  · exact .inl hn
  · exact .inr ⟨g, cap, cur, rfl, hg, by rw [hb.block g (Array.getElem?_eq_some_iff.1 hgg).1]; exact hgg, rest⟩
theorem own_form {w : World} {base size : Nat} {t : TypeId} {v : Value} {n : Nat} {xs : List Value} (h : w.ownsRow base t size v n xs) (hn : 0 < n) : ∃ g cap, v = .slice (some ⟨g, 0, none⟩) n cap := by
  rcases h.2 with ⟨_, h⟩ | ⟨g, cap, _, h, _⟩
  · omega
  · exact ⟨g, cap, h⟩
theorem PIn.lt {pb : Nat} {nm ve : S} {st : St} {sl : Fin 6 → Value} {w : World} (h : PIn pb nm ve st sl w) : pb < w.heap.size := (Array.getElem?_eq_some_iff.1 h.blk).1
theorem PIn.below {pb : Nat} {nm ve : S} {st : St} {sl : Fin 6 → Value} {w w' : World} (h : PIn pb nm ve st sl w) (hb : Below w.heap.size w w') : PIn pb nm ve st sl w' :=
  ⟨(hb.block _ h.lt).trans h.blk, fun i => own_below (h.own i) hb, h.apart⟩
theorem PIn.drew {pb : Nat} {nm ve : S} {st : St} {sl : Fin 6 → Value} {w : World} (h : PIn pb nm ve st sl w) : PIn pb nm ve st sl w.drew := ⟨h.blk, h.own, h.apart⟩
theorem PIn.drewN {pb : Nat} {nm ve : S} {st : St} {sl : Fin 6 → Value} {w : World} (h : PIn pb nm ve st sl w) (n : Nat) : PIn pb nm ve st sl (w.drewN n) := ⟨h.blk, h.own, h.apart⟩
theorem PIn.alloc {pb : Nat} {nm ve : S} {st : St} {sl : Fin 6 → Value} {w : World} (h : PIn pb nm ve st sl w) (o : Obj) : PIn pb nm ve st sl (w.alloc o) := h.below ((Below.refl _ w).alloc (Nat.le_refl _) o)
/-- The contents become another text. -/
theorem PIn.left {pb : Nat} {nm ve : S} {st : St} {sl : Fin 6 → Value} {w : World} (h : PIn pb nm ve st sl w) (x : S) : PIn pb nm ve { st with left := x } sl (w.setCell ⟨pb, 8, none⟩ (strV x)) :=
  ⟨heap_setCell_same _ pb 8 _ _ _ h.blk, fun i => by
    have := ownsRow_setCell_below (h.own i) (a := ⟨pb, 8, none⟩) (by simp) (strV x)
    cases i using Fin.cases <;> exact this, h.apart⟩
theorem PIn.names {pb : Nat} {nm ve : S} {st : St} {sl : Fin 6 → Value} {w : World} (h : PIn pb nm ve st sl w) (x y : S) : PIn pb x y st sl ((w.setCell ⟨pb, 0, none⟩ (strV x)).setCell ⟨pb, 1, none⟩ (strV y)) :=
  ⟨heap_setCell_same _ pb 1 _ _ _ (heap_setCell_same _ pb 0 _ _ _ h.blk), fun i => ownsRow_setCell_below (ownsRow_setCell_below (h.own i) (a := ⟨pb, 0, none⟩) (by simp) _) (a := ⟨pb, 1, none⟩) (by simp) _, h.apart⟩
/-- The parser's block behind an append onto one of its rows. -/
theorem PIn.kept {pb : Nat} {nm ve : S} {st : St} {sl : Fin 6 → Value} {w w' : World} (h : PIn pb nm ve st sl w) (i : Fin 6) (hg : w.grownBy w' (sl i).ownBlock) : w'.heap[pb]? = some (.cells (pcells nm ve sl st.left) 100 (0, 0)) := by
  refine (hg.block pb h.lt fun e => ?_).trans h.blk
  have := ((h.own i).lt pb e.symm).1
  omega
theorem pcells_set (nm ve : S) (sl : Fin 6 → Value) (left : S) (i : Fin 6) (v : Value) : (pcells nm ve sl left).setIfInBounds (2 + i.val) v = pcells nm ve (sset sl i v) left := by
  match i with
  | 0 => rfl
  | 1 => rfl
  | 2 => rfl
  | 3 => rfl
  | 4 => rfl
  | 5 => rfl
/-- An append onto the row i, and the store of its slice. -/
theorem PIn.put {pb : Nat} {nm ve : S} {st st' : St} {sl : Fin 6 → Value} {w w' : World} (h : PIn pb nm ve st sl w) (i : Fin 6) {v' : Value} (hg : w.grownBy w' (sl i).ownBlock)
    (hown : w'.ownsRow (pb + 1) (pty i) (psz i) v' (prow st' i).1 (prow st' i).2) (hblk : v'.ownBlock = (sl i).ownBlock ∨ v'.ownBlock = some w.heap.size) (hst : ∀ j, j ≠ i → prow st' j = prow st j) (hl : st'.left = st.left) :
    PIn pb nm ve st' (sset sl i v') (w'.setCell ⟨pb, 2 + i.val, none⟩ v') := by
  refine ⟨?_, fun j => ?_, fun j k hjk g hj hk => ?_⟩
  · rw [hl, ← pcells_set]
    exact heap_setCell_same _ pb (2 + i.val) _ _ v' (h.kept i hg)
  · refine ownsRow_setCell_below ?_ (by simp) _
    by_cases e : j = i
    · subst e; simp only [sset, if_pos]; exact hown
    · simp only [sset, if_neg e]
      rw [hst j e]
      refine (h.own j).kept hg ?_
      cases hj : (sl j).ownBlock with
      | none => exact .inl rfl
      | some g => exact .inr fun e2 => h.apart j i e g hj e2.symm
  · have new : ∀ m : Fin 6, m ≠ i → (sl m).ownBlock = some g → v'.ownBlock ≠ some g := by
      intro m hm e1 e2
      rcases hblk with e3 | e3
      · exact h.apart m i hm g e1 (e3 ▸ e2)
      · have := ((h.own m).lt g e1).2
        rw [e3] at e2; cases e2; omega
    by_cases e : j = i
    · subst e
      simp only [sset, if_pos] at hj
      simp only [sset, if_neg (Ne.symm hjk)] at hk
      exact new k (Ne.symm hjk) hk hj
    · simp only [sset, if_neg e] at hj
      by_cases e2 : k = i
      · subst e2
        simp only [sset, if_pos] at hk
        exact new j e hj hk
      · simp only [sset, if_neg e2] at hk
        exact h.apart j k hjk g hj hk
end Go.Proofs.YtgdmgmklncmanaaGreatDoor
/- The walks over a file's line: the first file. -/
namespace Go.Proofs.YtgdmgmklncmanaaGreatDoor
open Go.RowKit
open Arc (St Cmd S)

/-- A row of no element. -/
theorem own_none {w : World} {B e size : Nat} {v : Value} {xs : List Value} (h : w.ownsRow B e size v 0 xs) : ∃ ao c, v = .slice ao 0 c := by
  rcases h.2 with ⟨rfl, _⟩ | ⟨g, cap, cur, rfl, _⟩
  · exact ⟨none, 0, rfl⟩
  · exact ⟨some ⟨g, 0, none⟩, cap, rfl⟩

set_option maxHeartbeats 400000 in
theorem indexF_none (ao : Option Addr) (c : Nat) (fv : Value) (w : World) :
    Calls Tryz.prog 134 #[.slice ao 0 c, fv] w fun e w' => e = .returned (.int .i64 (-1)) ∧ Below w.heap.size w w' := by
  go_enter Tryz.func134, Tryz.ntmps134
  go_wp2_with fail
  go_loop [8] (fun i => i = .int .i64 0) (fun _ => 0)
  case atStart => rfl
  case round =>
    subst hrel
    go_wp2_with fail
    go_ret
    exact ⟨rfl, Below.refl _ _⟩
set_option maxHeartbeats 400000 in
theorem containsF_none (ao : Option Addr) (c : Nat) (fv : Value) (w : World) :
    Calls Tryz.prog 123 #[.slice ao 0 c, fv] w fun e w' => e = .returned (.bool false) ∧ Below w.heap.size w w' := by
  go_enter Tryz.func123, Tryz.ntmps123
  go_wp2_with (go_at_call 134; refine (indexF_none _ _ _ _).mono ?_; rintro e w1 ⟨rfl, hb⟩)
  go_ret
  exact ⟨rfl, hb⟩
set_option maxHeartbeats 400000 in
theorem hasFile_none (pb : Nat) (nm ve : S) (st : St) (sl : Fin 6 → Value) (x : S) (w : World) (h : PIn pb nm ve st sl w) (hf : st.files = []) :
    Calls Tryz.prog 112 #[.pointer (some ⟨pb, 0, none⟩), .string ⟨x.toArray⟩] w fun e w' => e = .returned (.bool false) ∧ Below w.heap.size w w' := by
  have hlt := h.lt
  have ho := h.own 3
  rw [show (prow st 3).1 = 0 from by simp [prow, hf]] at ho
  obtain ⟨ao, c, hv⟩ := own_none ho
  have k5 := (row_cell h.blk 5).trans (show _ = some (sl 3) from rfl)
  rw [hv] at k5
  clear ho hv h
  go_enter Tryz.func112, Tryz.ntmps112
  go_wp2_with (go_at_call 123; refine (containsF_none _ _ _ _).mono ?_; rintro e w1 ⟨rfl, hb⟩)
  go_ret
  exact ⟨rfl, ((Below.refl _ _).alloc (Nat.le_refl _) _).trans (hb.mono (by simp))⟩
theorem info_file : (Tryz.prog.info? 102).map (fun i => (i.zero, i.size, i.bytes)) = some (some (.agg #[.string ByteArray.empty, .string ByteArray.empty]), 2, 32) := by kernel_rfl

set_option maxRecDepth 100000 in
set_option maxHeartbeats 1000000 in
theorem file_ok (pb q o c : Nat) (nm ve : S) (st : St) (sl : Fin 6 → Value) (path z hsh : S) (n : Nat) (mx : Int) (K : Nat → Int) (w : World) (h : PIn pb nm ve st sl w) (hp0 : 9 ≤ pb) (hf : st.files = [])
    (hpl : path.length ≤ 2000) (hleft : st.left.length ≤ 2000)
    (h1 : 1 ≤ z.length) (h4 : z.length ≤ 4) (hd : Wd.headIs (fun c => (c.toNat : Int) == 48) z = false) (ht : Lib.trimS z tenD = []) (ha : Lib.atoi z = some (n : Int))
    (hn : n ≤ st.left.length) (hpath : Wd.isPath path = true) (hund : Wd.under path = false) (hsum : short K (st.left.take n) = hsh)
    (hm : w.cell? ⟨0, 0, none⟩ = some (.int .i64 mx)) (hK : ∀ i : Nat, i < 64 → w.cell? ⟨3, i, none⟩ = some (.int .u32 (K i)))
    (c0 : w.cell? ⟨q, o, none⟩ = some (.string ⟨path.toArray⟩)) (c1 : w.cell? ⟨q, o + 1, none⟩ = some (.string ⟨z.toArray⟩)) (c2 : w.cell? ⟨q, o + 2, none⟩ = some (.string ⟨hsh.toArray⟩)) :
    Calls Tryz.prog 94 #[.pointer (some ⟨pb, 0, none⟩), .slice (some ⟨q, o, none⟩) 3 c] w fun e w' => e = .returned (.bool true) ∧
      ∃ sl', PIn pb nm ve { st with files := st.files ++ [(path, st.left.take n)], left := st.left.drop n } sl' w' ∧ Below pb w w' := by
  obtain ⟨i0, hi, hz0, hz1, hz2⟩ := info_three info_file
  have hlt := h.lt
  have H := hide h; clear h
  have HM := hide hm; have HK := hide hK; have HSUM := hide hsum
  clear hm hK hsum
  go_enter Tryz.func94, Tryz.ntmps94
  have e1 : (⟨st.left.toArray⟩ : ByteArray).extract 0 n = ⟨(st.left.take n).toArray⟩ := list_ext_take st.left n
  have e2 : (⟨st.left.toArray⟩ : ByteArray).extract n st.left.length = ⟨(st.left.drop n).toArray⟩ := list_ext_drop st.left n
  have gb : (n : Int) ≤ (st.left.length : Int) := by omega
  go_wp2_with fail
  go_quiet (fail)
  go_wp2_with (first
    | (go_at_call 110; refine (size_ok z n h1 h4 hd ht ha _).mono ?_; rintro e w1 ⟨rfl, hb1⟩; have HP1 := hide ((H.out.drewN nq).below hb1); have k1 := (row_cell HP1.out.blk 8).trans (show _ = some (.string ⟨st.left.toArray⟩) from rfl); have HB1 : Hid (Below w.heap.size w w1) := hide ((below_drewN (Below.refl _ w) nq).trans hb1); clear hb1)
    | (go_at_call 93; refine (isPath_any path hpl mx _ ((HB1.out.cell (p := ⟨0, 0, none⟩) (by show 0 < w.heap.size; omega)).trans HM.out)).mono ?_; rintro e w2 ⟨rfl, hb2⟩; have HP2 := hide (HP1.out.below hb2); have k2 := (row_cell HP2.out.blk 8).trans (show _ = some (.string ⟨st.left.toArray⟩) from rfl); have HB2 := hide (HB1.out.trans (hb2.mono HB1.out.size)); clear hb2)
    | (go_at_call 111; refine (underVar_any path _).mono ?_; rintro e w3 ⟨rfl, rfl⟩)
    | (go_at_call 112; refine (hasFile_none pb nm ve st sl path _ HP2.out hf).mono ?_; rintro e w3 ⟨rfl, hb3⟩; have HP3 := hide (HP2.out.below hb3); have k3 := (row_cell HP3.out.blk 8).trans (show _ = some (.string ⟨st.left.toArray⟩) from rfl); have f3 := row_free HP3.out.blk 8; have hl3 := HP3.out.lt; have HB3 := hide (HB2.out.trans (hb3.mono HB2.out.size)); clear hb3))
  have hfb : ((w3.setCell ⟨pb, 8, none⟩ (.string ⟨(st.left.drop n).toArray⟩)).alloc (.cells #[.string ⟨path.toArray⟩, .string ⟨(st.left.take n).toArray⟩] 102)).heap[w3.heap.size]? = some (.cells #[.string ⟨path.toArray⟩, .string ⟨(st.left.take n).toArray⟩] 102 (0, 0)) := by
    have := heap_alloc_new (w3.setCell ⟨pb, 8, none⟩ (.string ⟨(st.left.drop n).toArray⟩)) (.cells #[.string ⟨path.toArray⟩, .string ⟨(st.left.take n).toArray⟩] 102)
    rwa [show (w3.setCell ⟨pb, 8, none⟩ (.string ⟨(st.left.drop n).toArray⟩)).heap.size = w3.heap.size from by simp] at this
  have P4 := (HP3.out.left (st.left.drop n)).alloc (.cells #[.string ⟨path.toArray⟩, .string ⟨(st.left.take n).toArray⟩] 102)
  have B4 : Below pb w ((w3.setCell ⟨pb, 8, none⟩ (.string ⟨(st.left.drop n).toArray⟩)).alloc (.cells #[.string ⟨path.toArray⟩, .string ⟨(st.left.take n).toArray⟩] 102)) :=
    ((show Below pb w w3 from HB3.out.mono (by omega)).setCell (p := ⟨pb, 8, none⟩) (Nat.le_refl _) _).alloc (by have := HP3.out.lt; simp; omega) _
  have hus : ((w3.setCell ⟨pb, 8, none⟩ (.string ⟨(st.left.drop n).toArray⟩)).alloc (.cells #[.string ⟨path.toArray⟩, .string ⟨(st.left.take n).toArray⟩] 102)).heap.size = w3.heap.size + 1 := by simp
  have hne : some w3.heap.size ≠ (sl 3).ownBlock := fun e => by have := ((HP3.out.own 3).lt _ e.symm).2; omega
  have e0 : strV (st.left.drop n) = .string ⟨(st.left.drop n).toArray⟩ := rfl
  rw [e0] at P4
  obtain ⟨fb, hfbe⟩ : ∃ fb, w3.heap.size = fb := ⟨_, rfl⟩
  generalize hu : (w3.setCell ⟨pb, 8, none⟩ (.string ⟨(st.left.drop n).toArray⟩)).alloc (.cells #[.string ⟨path.toArray⟩, .string ⟨(st.left.take n).toArray⟩] 102) = u at *
  rw [hfbe] at hfb hus hne hl3 ⊢
  clear hu k1 k2 k3 f3 HB3 HP3 HB2 HP2 HB1 HP1 e0 hfbe
  have k5 := (row_cell P4.blk 5).trans (show _ = some (sl 3) from rfl)
  have f5 := row_free P4.blk 5
  have l0 := (row_cell hfb 0).trans (show _ = some (.string ⟨path.toArray⟩) from rfl)
  have l1 := (row_cell hfb 1).trans (show _ = some (.string ⟨(st.left.take n).toArray⟩) from rfl)
  obtain ⟨m, xs, hmx⟩ : ∃ m xs, prow { st with left := st.left.drop n } 3 = (m, xs) := ⟨_, _, rfl⟩
  have hm0 : m = 0 := by have := congrArg Prod.fst hmx; simpa [prow, hf] using this.symm
  have own3 := P4.own 3
  rw [hmx] at own3
  have own3' : (u.drew).ownsRow (pb + 1) 102 2 (sl 3) m xs := own3
  have HP4 := hide P4; have HFB := hide hfb; have HB4 := hide B4; have HMX := hide hmx
  have hm1 : m ≤ 30 := by omega
  have hne2 : ¬ fb = pb := by omega
  have hne3 : ¬ pb = fb := by omega
  clear P4 hfb B4 hmx hm0 own3
  go_region_law (refine step_append_own rfl _ _ 63 rfl (pb + 1) 102 i0 _ 2 32 Tryz.underlying63 hi hz0 hz1 hz2 rfl (by decide) (sl 3) m xs rfl (own3'.alloc _) ⟨u.heap.size, 0, none⟩ 1 1 [_, _] (by simp [Act.eval]) rfl (cell_two_new _ _ _ _) (fun x hx => by simp at hx; rcases hx with rfl | rfl <;> rfl) (by unfold maxLen; omega) (by omega) (by simp; omega) ?_; intro v' w4 hown' hgrow4 hnil4 hblk4; obtain ⟨gv, cv, rfl⟩ := own_form hown' (by omega); have hk4 := PIn.kept (HP4.out.drew.alloc _) 3 hgrow4; have q5 := (row_cell hk4 5).trans (show _ = some (sl 3) from rfl); have g5 := row_free hk4 5; have hf4 := (hgrow4.block fb (by simp; omega) hne).trans ((Below.heap_alloc _ _ _ (by show fb < u.heap.size; omega)).trans HFB.out); have r1 := (row_cell hf4 1).trans (show _ = some (.string ⟨(st.left.take n).toArray⟩) from rfl))
  all_goals
    have hprow : prow { st with files := st.files ++ [(path, st.left.take n)], left := st.left.drop n } 3 = (m + 1, xs ++ [.string ⟨path.toArray⟩, .string ⟨(st.left.take n).toArray⟩]) := by
      have := HMX.out
      simp only [prow, Prod.mk.injEq] at this ⊢
      rw [← this.1, ← this.2]; simp [pairV, strV]
    have hown2 : w4.ownsRow (pb + 1) (pty 3) (psz 3) (.slice (some ⟨gv, 0, none⟩) (m + 1) cv) (prow { st with files := st.files ++ [(path, st.left.take n)], left := st.left.drop n } 3).1 (prow { st with files := st.files ++ [(path, st.left.take n)], left := st.left.drop n } 3).2 := by rw [hprow]; exact hown'
    have HP5 := hide (PIn.put (HP4.out.drew.alloc _) 3 hgrow4 hown2 hblk4 (fun j hj => by
      match j, hj with
      | 0, _ => rfl
      | 1, _ => rfl
      | 2, _ => rfl
      | 3, h => exact absurd rfl h
      | 4, _ => rfl
      | 5, _ => rfl) rfl)
    have HB5 : Hid (Below pb w (w4.setCell ⟨pb, 5, none⟩ (.slice (some ⟨gv, 0, none⟩) (m + 1) cv))) := hide (((show Below pb w w4 from ((HB4.out.drew.alloc (by show pb ≤ u.heap.size; omega) _).grown hgrow4 (by simp; omega) (fun k hk => by have := ((HP4.out.own 3).lt k hk).1; omega)))).setCell (p := ⟨pb, 5, none⟩) (Nat.le_refl pb) _)
    clear hown2 hprow hown' hgrow4 hnil4 hblk4 hk4 hf4
    go_wp2_with (first
      | (go_at_call 113; refine (short_any (st.left.take n) (by rw [List.length_take]; omega) K _ (by have := HB5.out.size; omega) (fun i hi => (HB5.out.cell (p := ⟨3, i, none⟩) (by show 3 < pb; omega)).trans (HK.out i hi))).mono ?_; rintro e w6 ⟨he6, hb6⟩; rw [HSUM.out] at he6; subst he6))
    go_ret
    exact ⟨rfl, _, HP5.out.below hb6, HB5.out.trans (hb6.mono (Nat.le_of_lt HP5.out.lt))⟩
end Go.Proofs.YtgdmgmklncmanaaGreatDoor
