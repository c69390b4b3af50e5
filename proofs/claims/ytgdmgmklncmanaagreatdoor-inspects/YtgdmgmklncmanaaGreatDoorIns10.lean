/- Of Ins: DigW7, OwnStep, DigW8. -/
import Derived.Test.YtgdmgmklncmanaaGreatDoorIns8
import Derived.Test.YtgdmgmklncmanaaGreatDoorIns9
import Derived.Deep.RegionLaw
import Derived.Deep.RegionHeld3
import Derived.Maps.AppendAt
import Derived.OwnWalk
import Derived.Laws.BytesArg
/- The walk over a digest's sum. -/
namespace Go.Proofs.YtgdmgmklncmanaaGreatDoor
open Go.RowKit

def iv : R8 := ⟨1779033703, 3144134277, 1013904242, 2773480762, 1359893119, 2600822924, 528734635, 1541459225⟩
/-- The bytes of the k-th block. -/
def blk (x : List UInt8) (k j : Nat) : Int := (((padB x)[64 * k + j]?).getD 0).toNat
/-- The state behind k blocks. -/
def hashTo (K : Nat → Int) (x : List UInt8) : Nat → R8
  | 0 => iv
  | k + 1 => R8.plus (hashTo K x k) (rounds (hashTo K x k) (wf (blk x k)) K 64)
def nb (x : List UInt8) : Nat := (padB x).length / 64

structure SumIn (K : Nat → Int) (x : List UInt8) (k g : Nat) (w wr : World) : Prop where
  out : wr.heap[w.heap.size]? = some (.cells (sumTo iv 0) 164 (0, 0))
  st : wr.heap[w.heap.size + 1]? = some (.cells (hashTo K x k).vals 175 (0, 0))
  cells : ∀ j, j < (padB x).length → wr.cell? ⟨g, j, none⟩ = some (.int .u8 (((padB x)[j]?).getD 0).toNat)
  gb : w.heap.size + 2 ≤ g
  gt : g < wr.heap.size
  bel : Below w.heap.size w wr
theorem pad_cells {x : List UInt8} {g n : Nat} {w : World} (hn : n = (padB x).length) (h : ∀ j, w.cell? ⟨g, j, none⟩ = (bcells (padB x))[j]? ∨ n ≤ j) : ∀ j, j < (padB x).length → w.cell? ⟨g, j, none⟩ = some (.int .u8 (((padB x)[j]?).getD 0).toNat) := by
  intro j hj
  rcases h j with h | h
  · rw [h, bcells, List.getElem?_map, List.getElem?_eq_getElem hj]; rfl
  · omega
theorem block_cells {K : Nat → Int} {x : List UInt8} {k g o n : Nat} {w wr : World} (h : SumIn K x k g w wr) (ho : o = 64 * k) (hn : o + n = (padB x).length) (h64 : 64 ≤ n) : ∀ j : Nat, j < 64 → wr.cell? ⟨g, o + j, none⟩ = some (.int .u8 (blk x k j)) := by
  intro j hj
  subst ho
  exact h.cells (64 * k + j) (by omega)
/-- A row that is set cell by cell; all else stands. -/
structure RowIs (w0 w1 : World) (b : Nat) (t : TypeId) (cs : Array Value) (wr : World) : Prop where
  row : wr.heap[b]? = some (.cells cs t (0, 0))
  bel : Below w0.heap.size w0 wr
  oth : ∀ k, k ≠ b → wr.heap[k]? = w1.heap[k]?
  siz : wr.heap.size = w1.heap.size
theorem RowIs.set {w0 w1 wr : World} {b : Nat} {t : TypeId} {cs : Array Value} (h : RowIs w0 w1 b t cs wr) (hlt : w0.heap.size ≤ b) (j : Nat) (v : Value) : RowIs w0 w1 b t (cs.setIfInBounds j v) (wr.setCell ⟨b, j, none⟩ v) :=
  ⟨heap_setCell_same _ b j _ _ v h.row, h.bel.setCell (p := ⟨b, j, none⟩) hlt v, fun k hk => (Below.heap_setCell _ _ _ _ hk).trans (h.oth k hk), by rw [← h.siz]; simp⟩
/-- Eight cells of a row, set one behind the other. -/
theorem eight_set {w0 wr : World} {b : Nat} {t : TypeId} {s0 s1 s2 s3 s4 s5 s6 s7 : Int} (n0 n1 n2 n3 n4 n5 n6 n7 : Int) (h : wr.heap[b]? = some (.cells (R8.vals ⟨s0, s1, s2, s3, s4, s5, s6, s7⟩) t (0, 0))) (hb : Below w0.heap.size w0 wr) (hlt : w0.heap.size ≤ b) :
    RowIs w0 wr b t (R8.vals ⟨n0, n1, n2, n3, n4, n5, n6, n7⟩) ((((((((wr.setCell ⟨b, 0, none⟩ (.int .u32 n0)).setCell ⟨b, 1, none⟩ (.int .u32 n1)).setCell ⟨b, 2, none⟩ (.int .u32 n2)).setCell ⟨b, 3, none⟩ (.int .u32 n3)).setCell ⟨b, 4, none⟩ (.int .u32 n4)).setCell ⟨b, 5, none⟩ (.int .u32 n5)).setCell ⟨b, 6, none⟩ (.int .u32 n6)).setCell ⟨b, 7, none⟩ (.int .u32 n7)) := by
  have g : RowIs w0 wr b t _ wr := ⟨h, hb, fun _ _ => rfl, rfl⟩
  have g8 := (((((((g.set hlt 0 (.int .u32 n0)).set hlt 1 (.int .u32 n1)).set hlt 2 (.int .u32 n2)).set hlt 3 (.int .u32 n3)).set hlt 4 (.int .u32 n4)).set hlt 5 (.int .u32 n5)).set hlt 6 (.int .u32 n6)).set hlt 7 (.int .u32 n7)
  have e : ((((((((R8.vals ⟨s0, s1, s2, s3, s4, s5, s6, s7⟩).setIfInBounds 0 (.int .u32 n0)).setIfInBounds 1 (.int .u32 n1)).setIfInBounds 2 (.int .u32 n2)).setIfInBounds 3 (.int .u32 n3)).setIfInBounds 4 (.int .u32 n4)).setIfInBounds 5 (.int .u32 n5)).setIfInBounds 6 (.int .u32 n6)).setIfInBounds 7 (.int .u32 n7) = R8.vals ⟨n0, n1, n2, n3, n4, n5, n6, n7⟩ := by simp [R8.vals]
  rw [e] at g8
  exact g8

theorem eight_free {w : World} {b : Nat} {t : TypeId} {s0 s1 s2 s3 s4 s5 s6 s7 : Int} (h : w.heap[b]? = some (.cells (R8.vals ⟨s0, s1, s2, s3, s4, s5, s6, s7⟩) t (0, 0))) :
    w.cell? ⟨b, 0, none⟩ = some (.int .u32 s0) ∧ w.cell? ⟨b, 1, none⟩ = some (.int .u32 s1) ∧ w.cell? ⟨b, 2, none⟩ = some (.int .u32 s2) ∧ w.cell? ⟨b, 3, none⟩ = some (.int .u32 s3) ∧ w.cell? ⟨b, 4, none⟩ = some (.int .u32 s4) ∧ w.cell? ⟨b, 5, none⟩ = some (.int .u32 s5) ∧ w.cell? ⟨b, 6, none⟩ = some (.int .u32 s6) ∧ w.cell? ⟨b, 7, none⟩ = some (.int .u32 s7)
    ∧ w.frozen? ⟨b, 0, none⟩ = false ∧ w.frozen? ⟨b, 1, none⟩ = false ∧ w.frozen? ⟨b, 2, none⟩ = false ∧ w.frozen? ⟨b, 3, none⟩ = false ∧ w.frozen? ⟨b, 4, none⟩ = false ∧ w.frozen? ⟨b, 5, none⟩ = false ∧ w.frozen? ⟨b, 6, none⟩ = false ∧ w.frozen? ⟨b, 7, none⟩ = false :=
  ⟨(row_cell h 0).trans rfl, (row_cell h 1).trans rfl, (row_cell h 2).trans rfl, (row_cell h 3).trans rfl, (row_cell h 4).trans rfl, (row_cell h 5).trans rfl, (row_cell h 6).trans rfl, (row_cell h 7).trans rfl, row_free h 0, row_free h 1, row_free h 2, row_free h 3, row_free h 4, row_free h 5, row_free h 6, row_free h 7⟩
theorem schedule_at {K : Nat → Int} {x : List UInt8} {k g o n c : Nat} {w wr : World} {b : Nat} {t : TypeId} {s0 s1 s2 s3 s4 s5 s6 s7 : Int} (h : SumIn K x k g w wr) (ho : o = 64 * k) (hn : o + n = (padB x).length) (h64 : 64 ≤ n) (hnc : n ≤ c)
    (hst : wr.heap[b]? = some (.cells (R8.vals ⟨s0, s1, s2, s3, s4, s5, s6, s7⟩) t (0, 0))) (w1 : World) (h1 : w1 = wr.drew) :
    Calls Tryz.prog 137 #[.slice (some ⟨g, o, none⟩) 64 c] w1 fun e w2 => e = .returned (.agg (schTo (blk x k) 64)) ∧ Below wr.heap.size wr w2 ∧ wr.heap.size ≤ w2.heap.size ∧
    w2.cell? ⟨b, 0, none⟩ = some (.int .u32 s0) ∧ w2.cell? ⟨b, 1, none⟩ = some (.int .u32 s1) ∧ w2.cell? ⟨b, 2, none⟩ = some (.int .u32 s2) ∧ w2.cell? ⟨b, 3, none⟩ = some (.int .u32 s3) ∧ w2.cell? ⟨b, 4, none⟩ = some (.int .u32 s4) ∧ w2.cell? ⟨b, 5, none⟩ = some (.int .u32 s5) ∧ w2.cell? ⟨b, 6, none⟩ = some (.int .u32 s6) ∧ w2.cell? ⟨b, 7, none⟩ = some (.int .u32 s7)
    ∧ w2.frozen? ⟨b, 0, none⟩ = false ∧ w2.frozen? ⟨b, 1, none⟩ = false ∧ w2.frozen? ⟨b, 2, none⟩ = false ∧ w2.frozen? ⟨b, 3, none⟩ = false ∧ w2.frozen? ⟨b, 4, none⟩ = false ∧ w2.frozen? ⟨b, 5, none⟩ = false ∧ w2.frozen? ⟨b, 6, none⟩ = false ∧ w2.frozen? ⟨b, 7, none⟩ = false := by
  subst h1
  refine (schedule_any (blk x k) g o c (by omega) wr.drew (by exact h.gt) (block_cells (wr := wr) h ho hn h64)).mono ?_
  rintro e w2 ⟨rfl, hb2⟩
  have hb2' : Below wr.heap.size wr w2 := (Below.refl _ wr).drew.trans hb2
  exact ⟨rfl, hb2', hb2'.size, eight_free ((hb2'.block _ (Array.getElem?_eq_some_iff.1 hst).1).trans hst)⟩
theorem mix_at {s0 s1 s2 s3 s4 s5 s6 s7 n0 n1 n2 n3 n4 n5 n6 n7 : Int} {b K : Nat → Int} (hn : Hid (R8.plus ⟨s0, s1, s2, s3, s4, s5, s6, s7⟩ (rounds ⟨s0, s1, s2, s3, s4, s5, s6, s7⟩ (wf b) K 64) = ⟨n0, n1, n2, n3, n4, n5, n6, n7⟩)) (w : World)
    (hg : 3 < w.heap.size) (hK : ∀ i : Nat, i < 64 → w.cell? ⟨3, i, none⟩ = some (.int .u32 (K i))) :
    Calls Tryz.prog 136 #[.agg #[.int .u32 s0, .int .u32 s1, .int .u32 s2, .int .u32 s3, .int .u32 s4, .int .u32 s5, .int .u32 s6, .int .u32 s7], .agg (schTo b 64)] w fun e w' => e = .returned (.agg #[.int .u32 n0, .int .u32 n1, .int .u32 n2, .int .u32 n3, .int .u32 n4, .int .u32 n5, .int .u32 n6, .int .u32 n7]) ∧ Below w.heap.size w w' := by
  refine (mix_any _ _ _ _ _ _ _ _ (schTo b 64) (wf b) K (fun i hi => schTo_get _ i hi 64 (by omega)) w hg hK).mono ?_
  rintro e w' ⟨he, hb⟩
  rw [hn.out] at he
  exact ⟨he, hb⟩

theorem sumTo_all (R : R8) : (sumTo R 32).all (·.oneCell') = true := Array.all_eq_true_iff_forall_mem.2 (sumTo_one R 32)
theorem bytes_at {s0 s1 s2 s3 s4 s5 s6 s7 : Int} {R : R8} (hR : Hid (R = ⟨s0, s1, s2, s3, s4, s5, s6, s7⟩)) (w : World) :
    Calls Tryz.prog 138 #[.agg #[.int .u32 s0, .int .u32 s1, .int .u32 s2, .int .u32 s3, .int .u32 s4, .int .u32 s5, .int .u32 s6, .int .u32 s7]] w fun e w' => e = .returned (.agg (sumTo R 32)) ∧ Below w.heap.size w w' := by
  have h := bytes_any R w
  rw [hR.out] at h ⊢
  exact h
theorem sum_next {K : Nat → Int} {x : List UInt8} {k g : Nat} {w wr w2 w3 : World} {s0 s1 s2 s3 s4 s5 s6 s7 n0 n1 n2 n3 n4 n5 n6 n7 : Int} (h : SumIn K x k g w wr) (hb2 : Below wr.heap.size wr w2) (hb3 : Below w2.heap.size w2 w3)
    (hr : hashTo K x k = ⟨s0, s1, s2, s3, s4, s5, s6, s7⟩) (hr2 : R8.plus ⟨s0, s1, s2, s3, s4, s5, s6, s7⟩ (rounds ⟨s0, s1, s2, s3, s4, s5, s6, s7⟩ (wf (blk x k)) K 64) = ⟨n0, n1, n2, n3, n4, n5, n6, n7⟩) :
    SumIn K x (k + 1) g w ((((((((w3.setCell ⟨w.heap.size + 1, 0, none⟩ (.int .u32 n0)).setCell ⟨w.heap.size + 1, 1, none⟩ (.int .u32 n1)).setCell ⟨w.heap.size + 1, 2, none⟩ (.int .u32 n2)).setCell ⟨w.heap.size + 1, 3, none⟩ (.int .u32 n3)).setCell ⟨w.heap.size + 1, 4, none⟩ (.int .u32 n4)).setCell ⟨w.heap.size + 1, 5, none⟩ (.int .u32 n5)).setCell ⟨w.heap.size + 1, 6, none⟩ (.int .u32 n6)).setCell ⟨w.heap.size + 1, 7, none⟩ (.int .u32 n7)) := by
  have hst := h.st
  rw [hr] at hst
  have hlt : w.heap.size + 1 < wr.heap.size := (Array.getElem?_eq_some_iff.1 hst).1
  have hb : Below wr.heap.size wr w3 := hb2.trans (hb3.mono hb2.size)
  have hbw : Below w.heap.size w w3 := h.bel.trans (hb.mono (by omega))
  have R := eight_set (w0 := w) n0 n1 n2 n3 n4 n5 n6 n7 ((hb.block _ hlt).trans hst) hbw (by omega)
  refine ⟨?_, ?_, fun j hj => ?_, h.gb, ?_, R.bel⟩
  · rw [R.oth _ (by omega), hb.block _ (by omega)]; exact h.out
  · rw [R.row, hashTo, hr, hr2]
  · have := h.cells j hj
    rw [← this]
    have e : ((((((((w3.setCell ⟨w.heap.size + 1, 0, none⟩ (.int .u32 n0)).setCell ⟨w.heap.size + 1, 1, none⟩ (.int .u32 n1)).setCell ⟨w.heap.size + 1, 2, none⟩ (.int .u32 n2)).setCell ⟨w.heap.size + 1, 3, none⟩ (.int .u32 n3)).setCell ⟨w.heap.size + 1, 4, none⟩ (.int .u32 n4)).setCell ⟨w.heap.size + 1, 5, none⟩ (.int .u32 n5)).setCell ⟨w.heap.size + 1, 6, none⟩ (.int .u32 n6)).setCell ⟨w.heap.size + 1, 7, none⟩ (.int .u32 n7)).heap[g]? = wr.heap[g]? := by
      rw [R.oth _ (by have := h.gb; omega), hb.block _ h.gt]
    exact World.cell?_of_block e
  · rw [R.siz]; exact Nat.lt_of_lt_of_le h.gt hb.size
theorem off_next {c o g : Nat} : ∃ o', (if c = 64 then some (⟨g, o, none⟩ : Addr) else some ⟨g, o + 64, none⟩) = some ⟨g, o', none⟩ ∧ (c = 64 ∨ o' = o + 64) := by
  by_cases h : c = 64
  · exact ⟨o, by rw [if_pos h], .inl h⟩
  · exact ⟨o + 64, by rw [if_neg h], .inr rfl⟩

set_option maxRecDepth 100000 in
set_option maxHeartbeats 1000000 in
theorem sum_any (x : List UInt8) (hx : x.length ≤ 1000000) (K : Nat → Int) (w : World) (hg : 3 < w.heap.size)
    (hK : ∀ i : Nat, i < 64 → w.cell? ⟨3, i, none⟩ = some (.int .u32 (K i))) :
    Calls Tryz.prog 125 #[.string ⟨x.toArray⟩] w fun e w' => e = .returned (.agg (sumTo (hashTo K x (nb x)) 32)) ∧ Below w.heap.size w w' := by
  go_enter Tryz.func125, Tryz.ntmps125
  go_wp2_with (first
    | (go_at_call 135; refine (pad_any x hx _).mono ?_; rintro e w1 ⟨v, rfl, hown, hb⟩; obtain ⟨g1, cap1, rfl, hg1, hg2, hc1, hc2, hcell⟩ := hown.shape; clear hown))
  have HS : Hid (SumIn K x 0 g1 w w1) := by
    have a1 := Below.alloc (Below.refl _ w) (Nat.le_refl _) (.cells (sumTo iv 0) 164)
    have e0 : ∀ (u : World) (q : Obj), (u.alloc q).heap.size = u.heap.size + 1 := fun u q => by simp
    have e1 := e0 w (.cells (sumTo iv 0) 164)
    have a2 := Below.alloc a1 (by rw [e1]; omega) (.cells (hashTo K x 0).vals 175)
    have e2 : ((w.alloc (.cells (sumTo iv 0) 164)).alloc (.cells (hashTo K x 0).vals 175)).heap.size = w.heap.size + 2 := by rw [e0, e1]
    have hb' : Below ((w.alloc (.cells (sumTo iv 0) 164)).alloc (.cells (hashTo K x 0).vals 175)).heap.size ((w.alloc (.cells (sumTo iv 0) 164)).alloc (.cells (hashTo K x 0).vals 175)) w1 := hb
    refine hide ⟨?_, ?_, pad_cells rfl hcell, ?_, hg2, a2.trans (hb'.mono (by rw [e2]; omega))⟩
    · rw [hb'.block _ (by rw [e2]; omega), Below.heap_alloc _ _ _ (by omega), heap_alloc_new]
    · rw [hb'.block _ (by rw [e2]; omega), ← e1, heap_alloc_new]
    · have : ((w.alloc (.cells (sumTo iv 0) 164)).alloc (.cells (hashTo K x 0).vals 175)).heap.size ≤ g1 := hg1
      omega
  clear hb hg1 hg2 hcell
  have hmod := padB_mod x
  generalize hL : (padB x).length = L at *
  have HL := hide hL; clear hL
  go_loopw [4] (fun v wr => ∃ (k o n c : Nat), v = .slice (some ⟨g1, o, none⟩) n c ∧ Hid ((n = 0 ∨ o = 64 * k) ∧ 64 * k + n = L) ∧ n ≤ c ∧ c ≤ maxLen ∧ Hid (SumIn K x k g1 w wr))
    (fun v _ => lenOf v)
  case atStart => exact ⟨0, 0, L, cap1, rfl, hide ⟨.inr rfl, by omega⟩, hc1, hc2, HS⟩
  case round =>
    clear HS hc1 hc2
    obtain ⟨k, o, n, c, rfl, HN, hnc, hcm, HW⟩ := hrel
    unfold maxLen at hcm
    by_cases hlt : 0 < n
    · have h64 : 64 ≤ n := by have := HN.out; omega
      obtain ⟨r, hr⟩ : ∃ r, hashTo K x k = r := ⟨_, rfl⟩
      obtain ⟨s0, s1, s2, s3, s4, s5, s6, s7⟩ := r
      obtain ⟨r, hr2⟩ : ∃ r, R8.plus ⟨s0, s1, s2, s3, s4, s5, s6, s7⟩ (rounds ⟨s0, s1, s2, s3, s4, s5, s6, s7⟩ (wf (blk x k)) K 64) = r := ⟨_, rfl⟩
      obtain ⟨n0, n1, n2, n3, n4, n5, n6, n7⟩ := r
      have HR2 := hide hr2; clear hr2
      have ho : o = 64 * k := by have := HN.out; omega
      have HO := hide ho; clear ho
      have hst := HW.out.st
      rw [hr] at hst
      have HR := hide hr; clear hr
      obtain ⟨k0, k1, k2, k3, k4, k5, k6, k7, f0, f1, f2, f3, f4, f5, f6, f7⟩ := eight_free hst
      have hB : w.heap.size + 1 < wr.heap.size := (Array.getElem?_eq_some_iff.1 hst).1
      have HST := hide hst; clear hst
      have hgt := HW.out.gt
      have hg' : 3 < wr.heap.size := by omega
      have HKr : Hid (∀ i : Nat, i < 64 → wr.cell? ⟨3, i, none⟩ = some (.int .u32 (K i))) := hide fun i hi => (HW.out.bel.cell (p := ⟨3, i, none⟩) hg).trans (hK i hi)
      have HK0 := hide hK; clear hK
      go_wp2_with fail
      go_region_with (first
        | (go_at_call 137; refine (schedule_at HW.out HO.out (by rw [HL.out, HO.out]; exact HN.out.2) h64 hnc HST.out _ rfl).mono ?_; rintro e w2 ⟨rfl, hb2, hs2, l0, l1, l2, l3, l4, l5, l6, l7, m0, m1, m2, m3, m4, m5, m6, m7⟩; have hz2 : w.heap.size + 1 < w2.heap.size := by omega)
        | (go_at_call 136; refine (mix_at HR2 _ (by omega) (fun i hi => (hb2.cell (p := ⟨3, i, none⟩) (by exact hg')).trans (HKr.out i hi))).mono ?_; rintro e w3 ⟨rfl, hb3⟩; obtain ⟨q0, q1, q2, q3, q4, q5, q6, q7, p0, p1, p2, p3, p4, p5, p6, p7⟩ := eight_free ((hb3.block _ hz2).trans ((hb2.block _ (by exact hB)).trans HST.out))))
      all_goals go_wp2_with fail
      all_goals
        go_roundw
        case rel =>
          obtain ⟨o', ho', ho2⟩ := off_next (c := c) (o := o) (g := g1)
          refine ⟨k + 1, o', n - 64, c - 64, by rw [ho'], ?_, by omega, by unfold maxLen; omega, ?_⟩
          · have h1 := HN.out
            have h2 := HO.out
            exact hide (by omega)
          · exact hide (sum_next HW.out hb2 hb3 HR.out HR2.out)
        case measure => simp [lenOf]; omega
    · obtain rfl : n = 0 := by omega
      have hk : k = nb x := by have := HN.out; have := HL.out; unfold nb; omega
      subst hk
      have hst := HW.out.st
      have hrw := HW.out.out
      have hbel := HW.out.bel
      obtain ⟨R, hr⟩ : ∃ R, hashTo K x (nb x) = R := ⟨_, rfl⟩
      rw [hr] at hst
      have HR0 := hide hr
      clear hr
      obtain ⟨r, hr⟩ : ∃ r : R8, R = r := ⟨_, rfl⟩
      obtain ⟨s0, s1, s2, s3, s4, s5, s6, s7⟩ := r
      have HR := hide hr
      rw [hr] at hst
      clear hr
      obtain ⟨k0, k1, k2, k3, k4, k5, k6, k7, f0, f1, f2, f3, f4, f5, f6, f7⟩ := eight_free hst
      have HRW := hide hrw; clear hrw hst
      have hwlt : w.heap.size < wr.heap.size := (Array.getElem?_eq_some_iff.1 HRW.out).1
      have HONE := hide (sumTo_all R)
      go_wp2_with (first
        | (go_at_call 138; refine (bytes_at HR _).mono ?_; rintro e w2 ⟨rfl, hb2⟩; have H3 := hide ((hb2.block _ hwlt).trans HRW.out); have H4 := hide (hbel.trans (hb2.mono (Nat.le_of_lt hwlt))); clear hb2)
        | (refine wpList_store_row rfl 164 _ _ rfl w.heap.size (sumTo R 32) rfl rfl _ (sumTo iv 0) H3.out (sumTo_info R 32) ((sumTo_size iv 0).trans (sumTo_size R 32).symm) HONE.out ?_))
      have h3 := setRow_heap w2 w.heap.size _ (sumTo R 32) _ _ H3.out
      have hb3 := below_setRow H4.out (g := w.heap.size) (by omega) (sumTo R 32)
      refine bodyPost_ret (results_cell_row rfl _ _ w.heap.size _ _ (0, 0) _ rfl h3 Tryz.underlying164 rfl (sumTo_info R 32)) rfl ⟨by rw [HR0.out], hb3⟩
end Go.Proofs.YtgdmgmklncmanaaGreatDoor
/- An append onto a row that the call owns, as one step of a region that draws its order. -/
namespace Go.Proofs.YtgdmgmklncmanaaGreatDoor
open Go

theorem step_append_own {P : Program} {ops : Array Oper} {o : Oper} {a : Act} {w : World} {K : Act → World → Prop} {Q : Exit → Act → World → Prop} {E : Prop}
    (hg : o.guard = none) (s x : Operand) (t : TypeId) (hop : o.op = Op.call { callee := Callee.builtin Builtin.append, args := #[s, x], argTypes := #[t, t] })
    (base : Nat) (e : TypeId) (i : TypeInfo) (z : Value) (size bytes : Nat) (ht : P.underlying t = some (.slice e)) (hi : P.info? e = some i) (hz : i.zero = some z)
    (hsize : i.size = size) (hby : i.bytes = bytes) (hzs : z.cells.size = size) (hsz : 0 < size)
    (v : Value) (n : Nat) (xs : List Value) (hs : a.eval s = v) (hown : w.ownsRow base e size v n xs)
    (ad : Addr) (m c : Nat) (news : List Value) (hx : a.eval x = .slice (some ad) m c) (hl : news.length = m * size) (hnews : ∀ j u, news[j]? = some u → w.cell? (ad.add j) = some u) (h1 : ∀ u ∈ news, u.oneCell' = true)
    (h63 : n + m ≤ maxLen) (hbytes : (n + m) * bytes ≤ 140737488355328) (hbase : base ≤ w.heap.size)
    (hK : ∀ v' w', w'.ownsRow base e size v' (n + m) (xs ++ news) → w.grownBy w' v.ownBlock → (v' = .slice none 0 0 ↔ v = .slice none 0 0 ∧ m = 0) → (v'.ownBlock = v.ownBlock ∨ v'.ownBlock = some w.heap.size) → K (a.put o.dst v') w') :
    if Region.wanted o (yielded ops a.tmps) = true then Oper.wp P o a w K Q else E := by
  have hw : Region.wanted o (yielded ops a.tmps) = true := by simp [Region.wanted, hg]
  rw [if_pos hw]
  obtain ⟨v', w', hrun, r1, r2, r3, r4⟩ := run_append_own_at (P := P) w base t o.type e i z size bytes ht hi hz hsize hby hzs hsz v n xs hown ad m c news hl hnews h1 h63 hbytes hbase
  unfold Oper.wp
  simp [execOp, hop, resolve, invoke, builtin, hs, hx, hrun, Result.andThen]
  exact hK v' w' r1 r2 r3 r4
end Go.Proofs.YtgdmgmklncmanaaGreatDoor
/- The walk over a digest's first signs. -/
namespace Go.Proofs.YtgdmgmklncmanaaGreatDoor
open Go.RowKit

def hexD : List UInt8 := [48, 49, 50, 51, 52, 53, 54, 55, 56, 57, 97, 98, 99, 100, 101, 102]
/-- A sign of a number below sixteen. -/
def hexS (n : Int) : UInt8 := hexD.getD n.toNat 48
/-- The signs of the first k bytes of a digest. -/
def shortTo (r : R8) : Nat → List UInt8
  | 0 => []
  | k + 1 => shortTo r k ++ [hexS (byteAt r k / 16), hexS (byteAt r k % 16)]
def short (K : Nat → Int) (x : List UInt8) : List UInt8 := shortTo (hashTo K x (nb x)) 8
theorem shortTo_len (r : R8) : ∀ k, (shortTo r k).length = 2 * k
  | 0 => rfl
  | k + 1 => by rw [shortTo, List.length_append, shortTo_len r k]; simp; omega
theorem byteAt_bd (r : R8) (k : Nat) : 0 ≤ byteAt r k ∧ byteAt r k < 256 := by unfold byteAt; omega
theorem sumTo_get (r : R8) (j : Nat) (hj : j < 32) : ∀ k, j < k → (sumTo r k)[j]? = some (.int .u8 (byteAt r j))
  | 0, h => by omega
  | k + 1, h => by
    rw [sumTo, Array.getElem?_setIfInBounds]
    by_cases e : k = j
    · subst e; simp [sumTo_size, hj]
    · rw [if_neg e]; exact sumTo_get r j hj k (by omega)
theorem hex_at (n : Nat) (h : n < 16) : ∃ hh, (⟨#[48, 49, 50, 51, 52, 53, 54, 55, 56, 57, 97, 98, 99, 100, 101, 102]⟩ : ByteArray)[n]'hh = hexS (n : Int) := by
  refine ⟨by simpa [ByteArray.size] using h, ?_⟩
  rcases (show n = 0 ∨ n = 1 ∨ n = 2 ∨ n = 3 ∨ n = 4 ∨ n = 5 ∨ n = 6 ∨ n = 7 ∨ n = 8 ∨ n = 9 ∨ n = 10 ∨ n = 11 ∨ n = 12 ∨ n = 13 ∨ n = 14 ∨ n = 15 from by omega) with rfl | rfl | rfl | rfl | rfl | rfl | rfl | rfl | rfl | rfl | rfl | rfl | rfl | rfl | rfl | rfl <;> rfl
theorem and15 : ∀ n : Nat, n < 256 → bits BinOp.and IntKind.u8 (n : Int) 15 = ((n % 16 : Nat) : Int) := by
  have h : ∀ n : Fin 256, bits BinOp.and IntKind.u8 (n.val : Int) 15 = ((n.val % 16 : Nat) : Int) := by decide +kernel
  exact fun n hn => h ⟨n, hn⟩

structure ShIn (b : Nat) (W : Array Value) (w wr : World) : Prop where
  st : wr.heap[b]? = some (.cells W 164 (0, 0))
  bel : Below w.heap.size w wr

theorem cell_two_new (w : World) (x y : Value) (t : TypeId) : ∀ j u, [x, y][j]? = some u → (w.alloc (.cells #[x, y] t)).cell? ((⟨w.heap.size, 0, none⟩ : Addr).add j) = some u := by
  intro j u h
  have hadd : (⟨w.heap.size, 0, none⟩ : Addr).add j = ⟨w.heap.size, j, none⟩ := by unfold Addr.add; split <;> simp_all
  rw [hadd, row_cell (heap_alloc_new w _)]
  simpa using h

theorem ShIn.grow {b B : Nat} {W : Array Value} {w wr w3 : World} {o : Obj} {g n c : Nat} (h : ShIn b W w wr) (hb : b < wr.heap.size) (hB : B = b + 1) (hg : B ≤ g) (hgr : (wr.alloc o).drew.grownBy w3 (Value.slice (some ⟨g, 0, none⟩) n c).ownBlock) (hw : w.heap.size ≤ b := by omega) : ShIn b W w w3 := by
  refine ⟨?_, ?_⟩
  · have h1 := hgr.block b (by simp; omega) (by simp [Value.ownBlock]; omega)
    rw [h1]
    exact (Below.heap_alloc wr o b hb).trans h.st
  · exact ((h.bel.alloc h.bel.size o).drew).grown hgr (by have := h.bel.size; simp; omega) (fun k hk => by simp [Value.ownBlock] at hk; omega)
theorem sh_next {wr : World} {B : Nat} {v : Value} {R : R8} {k n m : Nat} {q1 : n < (⟨#[48, 49, 50, 51, 52, 53, 54, 55, 56, 57, 97, 98, 99, 100, 101, 102]⟩ : ByteArray).size} {q2 : m < (⟨#[48, 49, 50, 51, 52, 53, 54, 55, 56, 57, 97, 98, 99, 100, 101, 102]⟩ : ByteArray).size}
    (hn : byteAt R k / 16 = n) (hm : byteAt R k % 16 = m) (h1 : (⟨#[48, 49, 50, 51, 52, 53, 54, 55, 56, 57, 97, 98, 99, 100, 101, 102]⟩ : ByteArray)[n]'q1 = hexS n) (h2 : (⟨#[48, 49, 50, 51, 52, 53, 54, 55, 56, 57, 97, 98, 99, 100, 101, 102]⟩ : ByteArray)[m]'q2 = hexS m)
    (h : wr.ownsRow B 5 1 v (2 * k + 2) (bcells (shortTo R k) ++ [Value.int .u8 ((⟨#[48, 49, 50, 51, 52, 53, 54, 55, 56, 57, 97, 98, 99, 100, 101, 102]⟩ : ByteArray)[n]'q1).toNat, Value.int .u8 ((⟨#[48, 49, 50, 51, 52, 53, 54, 55, 56, 57, 97, 98, 99, 100, 101, 102]⟩ : ByteArray)[m]'q2).toNat])) :
    wr.ownsRow B 5 1 v (2 * (k + 1)) (bcells (shortTo R (k + 1))) := by
  rw [h1, h2] at h
  have e : bcells (shortTo R (k + 1)) = bcells (shortTo R k) ++ [Value.int .u8 (hexS n).toNat, Value.int .u8 (hexS m).toNat] := by rw [shortTo, bcells_app, hn, hm]; rfl
  rw [e]; exact h
set_option maxRecDepth 100000 in
theorem sh_string {wr : World} {B g c : Nat} {l : List UInt8} (hl : l.length = 16) (h : wr.ownsRow B 5 1 (.slice (some ⟨g, 0, none⟩) 16 c) 16 (bcells l)) :
    (convert 113 9 (.slice (some ⟨g, 0, none⟩) 16 c)).run Tryz.prog wr = .ok (.string ⟨l.toArray⟩) wr := by
  have := run_convert_bytes_arg (P := Tryz.prog) wr 113 5 Tryz.underlying113 Tryz.underlying5 g 0 16 c (l.map fun c => (c.toNat : Int)) (by simp [hl]) (fun i hi => by
    rw [Nat.zero_add, h.cellAt i (by omega), bcells, List.getElem?_map, List.getElem?_eq_getElem (by omega)]
    simp [List.getD, List.getElem?_eq_getElem (show i < l.length by omega)]) 9 Tryz.underlying9
  rw [this]
  congr 2
  apply bytes_ext
  simp [strOfNums, Function.comp_def]

set_option maxRecDepth 100000 in
set_option maxHeartbeats 400000 in
theorem short_any (x : List UInt8) (hx : x.length ≤ 1000000) (K : Nat → Int) (w : World) (hg : 3 < w.heap.size)
    (hK : ∀ i : Nat, i < 64 → w.cell? ⟨3, i, none⟩ = some (.int .u32 (K i))) :
    Calls Tryz.prog 113 #[.string ⟨x.toArray⟩] w fun e w' => e = .returned (.string ⟨(short K x).toArray⟩) ∧ Below w.heap.size w w' := by
  obtain ⟨i0, hi, hz0, hz1, hz2⟩ := info_three info_byte
  obtain ⟨R, hR⟩ : ∃ R, hashTo K x (nb x) = R := ⟨_, rfl⟩
  have HR := hide hR; clear hR
  obtain ⟨W, hW⟩ : ∃ W, sumTo R 32 = W := ⟨_, rfl⟩
  have HW := hide hW; clear hW
  go_enter Tryz.func113, Tryz.ntmps113
  have hsz : W.size = 32 := by rw [← HW.out]; exact sumTo_size R 32
  have HI : Hid ((Tryz.prog.info? 164).map (·.size) = some W.size) := hide (by rw [hsz]; kernel_rfl)
  have HZ : Hid ((sumTo iv 0).size = W.size) := hide (by rw [hsz, sumTo_size])
  have HONE : Hid (W.all (·.oneCell') = true) := hide (by rw [← HW.out]; exact sumTo_all R)
  have HSZ := hide hsz; clear hsz
  go_wp2_with (first
    | (go_at_call 125; refine (sum_any x hx K _ hg hK).mono ?_; rintro e w1 ⟨he, hb1⟩; rw [HR.out, HW.out] at he; subst he)
    | (refine wpList_store_row rfl 164 _ _ rfl w1.heap.size W rfl rfl _ (sumTo iv 0) (heap_alloc_new w1 _) HI.out HZ.out HONE.out ?_)
    | (refine wpList_make_own _ rfl _ _ _ rfl (w1.heap.size + 1) 5 i0 (.int .u8 0) 1 Tryz.underlying113 hi hz0 hz1 _ _ 16 16 rfl rfl rfl (by omega) (by unfold maxLen; omega) (by simp) ?_; intro w2 hown hgrow))
  have HS : Hid (ShIn w1.heap.size W w w2) := by
    have h0 := heap_alloc_new w1 (.cells (sumTo iv 0) 164)
    have h1 := setRow_heap _ w1.heap.size _ W _ _ h0
    have b1 : Below w.heap.size w (w1.alloc (.cells (sumTo iv 0) 164)) := hb1.alloc hb1.size _
    have b2 := below_setRow b1 (g := w1.heap.size) hb1.size W
    have e0 : ((w1.alloc (.cells (sumTo iv 0) 164)).setRow w1.heap.size W).heap.size = w1.heap.size + 1 := by simp
    refine hide ⟨?_, b2.grown hgrow (by rw [e0]; have := hb1.size; omega) (fun k hk => by cases hk)⟩
    have := hgrow.block w1.heap.size (by simp) (by simp)
    exact this.trans h1
  have hw2 : w1.heap.size + 1 ≤ w2.heap.size := by
    have := hgrow.size; simp at this; omega
  have hs1 : w.heap.size ≤ w1.heap.size := hb1.size
  clear hgrow hb1
  have e1 : ((w1.alloc (.cells (sumTo iv 0) 164)).setRow w1.heap.size W).heap.size = w1.heap.size + 1 := by simp
  go_loopw [4, 12] (fun v i wr => ∃ (k g c : Nat), k ≤ 8 ∧ i = .int .i64 k ∧ v = .slice (some ⟨g, 0, none⟩) (2 * k) c ∧ wr.ownsRow (w1.heap.size + 1) 5 1 v (2 * k) (bcells (shortTo R k)) ∧ w1.heap.size + 1 ≤ wr.heap.size ∧ Hid (ShIn w1.heap.size W w wr))
    (fun _ i _ => 8 - (intOf i).toNat)
  case atStart => exact ⟨0, _, 16, by omega, rfl, rfl, by simpa [shortTo, bcells] using hown, hw2, HS⟩
  case round =>
    clear hown HS hw2 e1
    obtain ⟨k, g, c, hk, rfl, rfl, hown, hsz, HX⟩ := hrel
    by_cases hlt : k < 8
    · obtain ⟨b, hb⟩ : ∃ b : Nat, byteAt R k = (b : Int) := ⟨(byteAt R k).toNat, by have := byteAt_bd R k; omega⟩
      have hb256 : b < 256 := by have := byteAt_bd R k; omega
      have hcell : wr.cell? ⟨w1.heap.size, k, none⟩ = some (.int .u8 (b : Int)) := by rw [row_cell HX.out.st k, ← HW.out, sumTo_get R k (by omega) 32 (by omega), hb]
      have HBB := hide hb; clear hb
      have b8 : (k : Int) < 8 := by omega
      go_wp2_with fail
      have hown1 : wr.drew.ownsRow (w1.heap.size + 1) 5 1 (.slice (some ⟨g, 0, none⟩) (2 * k) c) (2 * k) (bcells (shortTo R k)) := hown
      obtain ⟨n, hn, hn16⟩ : ∃ n : Nat, (b : Int) / 16 = (n : Int) ∧ (n : Int) < 16 := ⟨b / 16, by omega, by omega⟩
      obtain ⟨m, hm, hm16⟩ : ∃ m : Nat, bits BinOp.and IntKind.u8 (b : Int) 15 = (m : Int) ∧ (m : Int) < 16 := ⟨b % 16, and15 b hb256, by omega⟩
      have HM : Hid ((b : Int) % 16 = m) := hide (by have := (and15 b hb256).symm.trans hm; omega)
      obtain ⟨q1, hq1⟩ := hex_at n (by omega)
      obtain ⟨q2, hq2⟩ := hex_at m (by omega)
      have HQ1 := hide hq1
      have HQ2 := hide hq2
      clear hq1 hq2
      go_region_law (refine step_append_own rfl _ _ 113 rfl (w1.heap.size + 1) 5 i0 (.int .u8 0) 1 1 Tryz.underlying113 hi hz0 hz1 hz2 rfl (by decide) _ _ _ rfl (hown1.alloc _) ⟨wr.heap.size, 0, none⟩ 2 2 [_, _] rfl rfl (cell_two_new _ _ _ _) (fun x hx => by simp at hx; rcases hx with rfl | rfl <;> rfl) (by unfold maxLen; omega) (by omega) (by simp; omega) ?_; intro v' w3 hown' hgrow3 hnil3 hblk3)
      all_goals go_wp2_with fail
      all_goals
        go_roundw
        case rel =>
          obtain ⟨g3, c3, hv3⟩ := own_shape hown' (by omega)
          have hgb := (hown.lt g rfl).1
          have hn3 := sh_next (by rw [HBB.out]; exact hn) (by rw [HBB.out]; exact HM.out) HQ1.out HQ2.out hown'
          refine ⟨k + 1, g3, c3, by omega, by go_num, hv3, hn3, ?_, hide (ShIn.grow HX.out (by omega) (by omega) hgb hgrow3)⟩
          have := hgrow3.size; simp at this; omega
        case measure => simp [intOf]; omega
    · obtain rfl : k = 8 := by omega
      have hcv := sh_string (shortTo_len R 8) hown
      rw [show 2 * 8 = 16 from rfl]
      have HH := HX.out.bel
      have HF : Hid (short K x = shortTo R 8) := hide (by rw [short, HR.out])
      clear hown
      go_wp2_with fail
      go_ret
      exact ⟨ret_str (by rw [HF.out]), HH⟩
end Go.Proofs.YtgdmgmklncmanaaGreatDoor
