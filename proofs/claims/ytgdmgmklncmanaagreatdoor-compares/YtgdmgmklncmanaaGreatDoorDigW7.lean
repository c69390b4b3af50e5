/- The walk over a digest's sum. -/
import Derived.Test.YtgdmgmklncmanaaGreatDoorDigW5
import Derived.Test.YtgdmgmklncmanaaGreatDoorDigW6
namespace Go.Proofs.YtgdmgmklncmanaaGreatDoor
open Go.RowKit

def iv : R8 := ⟨1779033703, 3144134277, 1013904242, 2773480762, 1359893119, 2600822924, 528734635, 1541459225⟩
/-- The bytes of the k-th block. -/
def blk (x : List UInt8) (k j : Nat) : Int := (((padB x)[64 * k + j]?).getD 0).toNat
/-- The state behind k blocks. -/
def hashTo (K : Nat → Int) (x : List UInt8) : Nat → R8
  | 0 => iv
  | k + 1 => R8.plus (hashTo K x k) (rounds (hashTo K x k) (wf (blk x k)) K 64)
def nb (x : List UInt8) : Nat := (padB x).length / 64

structure SumIn (K : Nat → Int) (x : List UInt8) (k g : Nat) (w wr : World) : Prop where
  out : wr.heap[w.heap.size]? = some (.cells (sumTo iv 0) 164 (0, 0))
  st : wr.heap[w.heap.size + 1]? = some (.cells (hashTo K x k).vals 175 (0, 0))
  cells : ∀ j, j < (padB x).length → wr.cell? ⟨g, j, none⟩ = some (.int .u8 (((padB x)[j]?).getD 0).toNat)
  gb : w.heap.size + 2 ≤ g
  gt : g < wr.heap.size
  bel : Below w.heap.size w wr
theorem pad_cells {x : List UInt8} {g n : Nat} {w : World} (hn : n = (padB x).length) (h : ∀ j, w.cell? ⟨g, j, none⟩ = (bcells (padB x))[j]? ∨ n ≤ j) : ∀ j, j < (padB x).length → w.cell? ⟨g, j, none⟩ = some (.int .u8 (((padB x)[j]?).getD 0).toNat) := by
  intro j hj
  rcases h j with h | h
  · rw [h, bcells, List.getElem?_map, List.getElem?_eq_getElem hj]; rfl
  · omega
theorem block_cells {K : Nat → Int} {x : List UInt8} {k g o n : Nat} {w wr : World} (h : SumIn K x k g w wr) (ho : o = 64 * k) (hn : o + n = (padB x).length) (h64 : 64 ≤ n) : ∀ j : Nat, j < 64 → wr.cell? ⟨g, o + j, none⟩ = some (.int .u8 (blk x k j)) := by
  intro j hj
  subst ho
  exact h.cells (64 * k + j) (by omega)
/-- A row that is set cell by cell; all else stands. -/
structure RowIs (w0 w1 : World) (b : Nat) (t : TypeId) (cs : Array Value) (wr : World) : Prop where
  row : wr.heap[b]? = some (.cells cs t (0, 0))
  bel : Below w0.heap.size w0 wr
  oth : ∀ k, k ≠ b → wr.heap[k]? = w1.heap[k]?
  siz : wr.heap.size = w1.heap.size
theorem RowIs.set {w0 w1 wr : World} {b : Nat} {t : TypeId} {cs : Array Value} (h : RowIs w0 w1 b t cs wr) (hlt : w0.heap.size ≤ b) (j : Nat) (v : Value) : RowIs w0 w1 b t (cs.setIfInBounds j v) (wr.setCell ⟨b, j, none⟩ v) :=
  ⟨heap_setCell_same _ b j _ _ v h.row, h.bel.setCell (p := ⟨b, j, none⟩) hlt v, fun k hk => (Below.heap_setCell _ _ _ _ hk).trans (h.oth k hk), by rw [← h.siz]; simp⟩
/-- Eight cells of a row, set one behind the other. -/
theorem eight_set {w0 wr : World} {b : Nat} {t : TypeId} {s0 s1 s2 s3 s4 s5 s6 s7 : Int} (n0 n1 n2 n3 n4 n5 n6 n7 : Int) (h : wr.heap[b]? = some (.cells (R8.vals ⟨s0, s1, s2, s3, s4, s5, s6, s7⟩) t (0, 0))) (hb : Below w0.heap.size w0 wr) (hlt : w0.heap.size ≤ b) :
    RowIs w0 wr b t (R8.vals ⟨n0, n1, n2, n3, n4, n5, n6, n7⟩) ((((((((wr.setCell ⟨b, 0, none⟩ (.int .u32 n0)).setCell ⟨b, 1, none⟩ (.int .u32 n1)).setCell ⟨b, 2, none⟩ (.int .u32 n2)).setCell ⟨b, 3, none⟩ (.int .u32 n3)).setCell ⟨b, 4, none⟩ (.int .u32 n4)).setCell ⟨b, 5, none⟩ (.int .u32 n5)).setCell ⟨b, 6, none⟩ (.int .u32 n6)).setCell ⟨b, 7, none⟩ (.int .u32 n7)) := by
  have g : RowIs w0 wr b t _ wr := ⟨h, hb, fun _ _ => rfl, rfl⟩
  have g8 := (((((((g.set hlt 0 (.int .u32 n0)).set hlt 1 (.int .u32 n1)).set hlt 2 (.int .u32 n2)).set hlt 3 (.int .u32 n3)).set hlt 4 (.int .u32 n4)).set hlt 5 (.int .u32 n5)).set hlt 6 (.int .u32 n6)).set hlt 7 (.int .u32 n7)
  have e : ((((((((R8.vals ⟨s0, s1, s2, s3, s4, s5, s6, s7⟩).setIfInBounds 0 (.int .u32 n0)).setIfInBounds 1 (.int .u32 n1)).setIfInBounds 2 (.int .u32 n2)).setIfInBounds 3 (.int .u32 n3)).setIfInBounds 4 (.int .u32 n4)).setIfInBounds 5 (.int .u32 n5)).setIfInBounds 6 (.int .u32 n6)).setIfInBounds 7 (.int .u32 n7) = R8.vals ⟨n0, n1, n2, n3, n4, n5, n6, n7⟩ := by simp [R8.vals]
  rw [e] at g8
  exact g8

theorem eight_free {w : World} {b : Nat} {t : TypeId} {s0 s1 s2 s3 s4 s5 s6 s7 : Int} (h : w.heap[b]? = some (.cells (R8.vals ⟨s0, s1, s2, s3, s4, s5, s6, s7⟩) t (0, 0))) :
    w.cell? ⟨b, 0, none⟩ = some (.int .u32 s0) ∧ w.cell? ⟨b, 1, none⟩ = some (.int .u32 s1) ∧ w.cell? ⟨b, 2, none⟩ = some (.int .u32 s2) ∧ w.cell? ⟨b, 3, none⟩ = some (.int .u32 s3) ∧ w.cell? ⟨b, 4, none⟩ = some (.int .u32 s4) ∧ w.cell? ⟨b, 5, none⟩ = some (.int .u32 s5) ∧ w.cell? ⟨b, 6, none⟩ = some (.int .u32 s6) ∧ w.cell? ⟨b, 7, none⟩ = some (.int .u32 s7)
    ∧ w.frozen? ⟨b, 0, none⟩ = false ∧ w.frozen? ⟨b, 1, none⟩ = false ∧ w.frozen? ⟨b, 2, none⟩ = false ∧ w.frozen? ⟨b, 3, none⟩ = false ∧ w.frozen? ⟨b, 4, none⟩ = false ∧ w.frozen? ⟨b, 5, none⟩ = false ∧ w.frozen? ⟨b, 6, none⟩ = false ∧ w.frozen? ⟨b, 7, none⟩ = false :=
  ⟨(row_cell h 0).trans rfl, (row_cell h 1).trans rfl, (row_cell h 2).trans rfl, (row_cell h 3).trans rfl, (row_cell h 4).trans rfl, (row_cell h 5).trans rfl, (row_cell h 6).trans rfl, (row_cell h 7).trans rfl, row_free h 0, row_free h 1, row_free h 2, row_free h 3, row_free h 4, row_free h 5, row_free h 6, row_free h 7⟩
theorem schedule_at {K : Nat → Int} {x : List UInt8} {k g o n c : Nat} {w wr : World} {b : Nat} {t : TypeId} {s0 s1 s2 s3 s4 s5 s6 s7 : Int} (h : SumIn K x k g w wr) (ho : o = 64 * k) (hn : o + n = (padB x).length) (h64 : 64 ≤ n) (hnc : n ≤ c)
    (hst : wr.heap[b]? = some (.cells (R8.vals ⟨s0, s1, s2, s3, s4, s5, s6, s7⟩) t (0, 0))) (w1 : World) (h1 : w1 = wr.drew) :
    Calls Tryz.prog 137 #[.slice (some ⟨g, o, none⟩) 64 c] w1 fun e w2 => e = .returned (.agg (schTo (blk x k) 64)) ∧ Below wr.heap.size wr w2 ∧ wr.heap.size ≤ w2.heap.size ∧
    w2.cell? ⟨b, 0, none⟩ = some (.int .u32 s0) ∧ w2.cell? ⟨b, 1, none⟩ = some (.int .u32 s1) ∧ w2.cell? ⟨b, 2, none⟩ = some (.int .u32 s2) ∧ w2.cell? ⟨b, 3, none⟩ = some (.int .u32 s3) ∧ w2.cell? ⟨b, 4, none⟩ = some (.int .u32 s4) ∧ w2.cell? ⟨b, 5, none⟩ = some (.int .u32 s5) ∧ w2.cell? ⟨b, 6, none⟩ = some (.int .u32 s6) ∧ w2.cell? ⟨b, 7, none⟩ = some (.int .u32 s7)
    ∧ w2.frozen? ⟨b, 0, none⟩ = false ∧ w2.frozen? ⟨b, 1, none⟩ = false ∧ w2.frozen? ⟨b, 2, none⟩ = false ∧ w2.frozen? ⟨b, 3, none⟩ = false ∧ w2.frozen? ⟨b, 4, none⟩ = false ∧ w2.frozen? ⟨b, 5, none⟩ = false ∧ w2.frozen? ⟨b, 6, none⟩ = false ∧ w2.frozen? ⟨b, 7, none⟩ = false := by
  subst h1
  refine (schedule_any (blk x k) g o c (by omega) wr.drew (by exact h.gt) (block_cells (wr := wr) h ho hn h64)).mono ?_
  rintro e w2 ⟨rfl, hb2⟩
  have hb2' : Below wr.heap.size wr w2 := (Below.refl _ wr).drew.trans hb2
  exact ⟨rfl, hb2', hb2'.size, eight_free ((hb2'.block _ (Array.getElem?_eq_some_iff.1 hst).1).trans hst)⟩
theorem mix_at {s0 s1 s2 s3 s4 s5 s6 s7 n0 n1 n2 n3 n4 n5 n6 n7 : Int} {b K : Nat → Int} (hn : Hid (R8.plus ⟨s0, s1, s2, s3, s4, s5, s6, s7⟩ (rounds ⟨s0, s1, s2, s3, s4, s5, s6, s7⟩ (wf b) K 64) = ⟨n0, n1, n2, n3, n4, n5, n6, n7⟩)) (w : World)
    (hg : 3 < w.heap.size) (hK : ∀ i : Nat, i < 64 → w.cell? ⟨3, i, none⟩ = some (.int .u32 (K i))) :
    Calls Tryz.prog 136 #[.agg #[.int .u32 s0, .int .u32 s1, .int .u32 s2, .int .u32 s3, .int .u32 s4, .int .u32 s5, .int .u32 s6, .int .u32 s7], .agg (schTo b 64)] w fun e w' => e = .returned (.agg #[.int .u32 n0, .int .u32 n1, .int .u32 n2, .int .u32 n3, .int .u32 n4, .int .u32 n5, .int .u32 n6, .int .u32 n7]) ∧ Below w.heap.size w w' := by
  refine (mix_any _ _ _ _ _ _ _ _ (schTo b 64) (wf b) K (fun i hi => schTo_get _ i hi 64 (by omega)) w hg hK).mono ?_
  rintro e w' ⟨he, hb⟩
  rw [hn.out] at he
  exact ⟨he, hb⟩

theorem sumTo_all (R : R8) : (sumTo R 32).all (·.oneCell') = true := Array.all_eq_true_iff_forall_mem.2 (sumTo_one R 32)
theorem bytes_at {s0 s1 s2 s3 s4 s5 s6 s7 : Int} {R : R8} (hR : Hid (R = ⟨s0, s1, s2, s3, s4, s5, s6, s7⟩)) (w : World) :
    Calls Tryz.prog 138 #[.agg #[.int .u32 s0, .int .u32 s1, .int .u32 s2, .int .u32 s3, .int .u32 s4, .int .u32 s5, .int .u32 s6, .int .u32 s7]] w fun e w' => e = .returned (.agg (sumTo R 32)) ∧ Below w.heap.size w w' := by
  have h := bytes_any R w
  rw [hR.out] at h ⊢
  exact h
theorem sum_next {K : Nat → Int} {x : List UInt8} {k g : Nat} {w wr w2 w3 : World} {s0 s1 s2 s3 s4 s5 s6 s7 n0 n1 n2 n3 n4 n5 n6 n7 : Int} (h : SumIn K x k g w wr) (hb2 : Below wr.heap.size wr w2) (hb3 : Below w2.heap.size w2 w3)
    (hr : hashTo K x k = ⟨s0, s1, s2, s3, s4, s5, s6, s7⟩) (hr2 : R8.plus ⟨s0, s1, s2, s3, s4, s5, s6, s7⟩ (rounds ⟨s0, s1, s2, s3, s4, s5, s6, s7⟩ (wf (blk x k)) K 64) = ⟨n0, n1, n2, n3, n4, n5, n6, n7⟩) :
    SumIn K x (k + 1) g w ((((((((w3.setCell ⟨w.heap.size + 1, 0, none⟩ (.int .u32 n0)).setCell ⟨w.heap.size + 1, 1, none⟩ (.int .u32 n1)).setCell ⟨w.heap.size + 1, 2, none⟩ (.int .u32 n2)).setCell ⟨w.heap.size + 1, 3, none⟩ (.int .u32 n3)).setCell ⟨w.heap.size + 1, 4, none⟩ (.int .u32 n4)).setCell ⟨w.heap.size + 1, 5, none⟩ (.int .u32 n5)).setCell ⟨w.heap.size + 1, 6, none⟩ (.int .u32 n6)).setCell ⟨w.heap.size + 1, 7, none⟩ (.int .u32 n7)) := by
  have hst := h.st
  rw [hr] at hst
  have hlt : w.heap.size + 1 < wr.heap.size := (Array.getElem?_eq_some_iff.1 hst).1
  have hb : Below wr.heap.size wr w3 := hb2.trans (hb3.mono hb2.size)
  have hbw : Below w.heap.size w w3 := h.bel.trans (hb.mono (by omega))
  have R := eight_set (w0 := w) n0 n1 n2 n3 n4 n5 n6 n7 ((hb.block _ hlt).trans hst) hbw (by omega)
  refine ⟨?_, ?_, fun j hj => ?_, h.gb, ?_, R.bel⟩
  · rw [R.oth _ (by omega), hb.block _ (by omega)]; exact h.out
  · rw [R.row, hashTo, hr, hr2]
  · have := h.cells j hj
    rw [← this]
    have e : ((((((((w3.setCell ⟨w.heap.size + 1, 0, none⟩ (.int .u32 n0)).setCell ⟨w.heap.size + 1, 1, none⟩ (.int .u32 n1)).setCell ⟨w.heap.size + 1, 2, none⟩ (.int .u32 n2)).setCell ⟨w.heap.size + 1, 3, none⟩ (.int .u32 n3)).setCell ⟨w.heap.size + 1, 4, none⟩ (.int .u32 n4)).setCell ⟨w.heap.size + 1, 5, none⟩ (.int .u32 n5)).setCell ⟨w.heap.size + 1, 6, none⟩ (.int .u32 n6)).setCell ⟨w.heap.size + 1, 7, none⟩ (.int .u32 n7)).heap[g]? = wr.heap[g]? := by
      rw [R.oth _ (by have := h.gb; omega), hb.block _ h.gt]
    exact World.cell?_of_block e
  · rw [R.siz]; exact Nat.lt_of_lt_of_le h.gt hb.size
theorem off_next {c o g : Nat} : ∃ o', (if c = 64 then some (⟨g, o, none⟩ : Addr) else some ⟨g, o + 64, none⟩) = some ⟨g, o', none⟩ ∧ (c = 64 ∨ o' = o + 64) := by
  by_cases h : c = 64
  · exact ⟨o, by rw [if_pos h], .inl h⟩
  · exact ⟨o + 64, by rw [if_neg h], .inr rfl⟩

set_option maxRecDepth 100000 in
set_option maxHeartbeats 1000000 in
theorem sum_any (x : List UInt8) (hx : x.length ≤ 1000000) (K : Nat → Int) (w : World) (hg : 3 < w.heap.size)
    (hK : ∀ i : Nat, i < 64 → w.cell? ⟨3, i, none⟩ = some (.int .u32 (K i))) :
    Calls Tryz.prog 125 #[.string ⟨x.toArray⟩] w fun e w' => e = .returned (.agg (sumTo (hashTo K x (nb x)) 32)) ∧ Below w.heap.size w w' := by
  go_enter Tryz.func125, Tryz.ntmps125
  go_wp2_with (first
    | (go_at_call 135; refine (pad_any x hx _).mono ?_; rintro e w1 ⟨v, rfl, hown, hb⟩; obtain ⟨g1, cap1, rfl, hg1, hg2, hc1, hc2, hcell⟩ := hown.shape; clear hown))
  have HS : Hid (SumIn K x 0 g1 w w1) := by
    have a1 := Below.alloc (Below.refl _ w) (Nat.le_refl _) (.cells (sumTo iv 0) 164)
    have e0 : ∀ (u : World) (q : Obj), (u.alloc q).heap.size = u.heap.size + 1 := fun u q => by simp
    have e1 := e0 w (.cells (sumTo iv 0) 164)
    have a2 := Below.alloc a1 (by rw [e1]; omega) (.cells (hashTo K x 0).vals 175)
    have e2 : ((w.alloc (.cells (sumTo iv 0) 164)).alloc (.cells (hashTo K x 0).vals 175)).heap.size = w.heap.size + 2 := by rw [e0, e1]
    have hb' : Below ((w.alloc (.cells (sumTo iv 0) 164)).alloc (.cells (hashTo K x 0).vals 175)).heap.size ((w.alloc (.cells (sumTo iv 0) 164)).alloc (.cells (hashTo K x 0).vals 175)) w1 := hb
    refine hide ⟨?_, ?_, pad_cells rfl hcell, ?_, hg2, a2.trans (hb'.mono (by rw [e2]; omega))⟩
    · rw [hb'.block _ (by rw [e2]; omega), Below.heap_alloc _ _ _ (by omega), heap_alloc_new]
    · rw [hb'.block _ (by rw [e2]; omega), ← e1, heap_alloc_new]
    · have : ((w.alloc (.cells (sumTo iv 0) 164)).alloc (.cells (hashTo K x 0).vals 175)).heap.size ≤ g1 := hg1
      omega
  clear hb hg1 hg2 hcell
  have hmod := padB_mod x
  generalize hL : (padB x).length = L at *
  have HL := hide hL; clear hL
  go_loopw [4] (fun v wr => ∃ (k o n c : Nat), v = .slice (some ⟨g1, o, none⟩) n c ∧ Hid ((n = 0 ∨ o = 64 * k) ∧ 64 * k + n = L) ∧ n ≤ c ∧ c ≤ maxLen ∧ Hid (SumIn K x k g1 w wr))
    (fun v _ => lenOf v)
  case atStart => exact ⟨0, 0, L, cap1, rfl, hide ⟨.inr rfl, by omega⟩, hc1, hc2, HS⟩
  case round =>
    clear HS hc1 hc2
    obtain ⟨k, o, n, c, rfl, HN, hnc, hcm, HW⟩ := hrel
    unfold maxLen at hcm
    by_cases hlt : 0 < n
    · have h64 : 64 ≤ n := by have := HN.out; omega
      obtain ⟨r, hr⟩ : ∃ r, hashTo K x k = r := ⟨_, rfl⟩
      obtain ⟨s0, s1, s2, s3, s4, s5, s6, s7⟩ := r
      obtain ⟨r, hr2⟩ : ∃ r, R8.plus ⟨s0, s1, s2, s3, s4, s5, s6, s7⟩ (rounds ⟨s0, s1, s2, s3, s4, s5, s6, s7⟩ (wf (blk x k)) K 64) = r := ⟨_, rfl⟩
      obtain ⟨n0, n1, n2, n3, n4, n5, n6, n7⟩ := r
      have HR2 := hide hr2; clear hr2
      have ho : o = 64 * k := by have := HN.out; omega
      have HO := hide ho; clear ho
      have hst := HW.out.st
      rw [hr] at hst
      have HR := hide hr; clear hr
      obtain ⟨k0, k1, k2, k3, k4, k5, k6, k7, f0, f1, f2, f3, f4, f5, f6, f7⟩ := eight_free hst
      have hB : w.heap.size + 1 < wr.heap.size := (Array.getElem?_eq_some_iff.1 hst).1
      have HST := hide hst; clear hst
      have hgt := HW.out.gt
      have hg' : 3 < wr.heap.size := by omega
      have HKr : Hid (∀ i : Nat, i < 64 → wr.cell? ⟨3, i, none⟩ = some (.int .u32 (K i))) := hide fun i hi => (HW.out.bel.cell (p := ⟨3, i, none⟩) hg).trans (hK i hi)
      have HK0 := hide hK; clear hK
      go_wp2_with fail
      go_region_with (first
        | (go_at_call 137; refine (schedule_at HW.out HO.out (by rw [HL.out, HO.out]; exact HN.out.2) h64 hnc HST.out _ rfl).mono ?_; rintro e w2 ⟨rfl, hb2, hs2, l0, l1, l2, l3, l4, l5, l6, l7, m0, m1, m2, m3, m4, m5, m6, m7⟩; have hz2 : w.heap.size + 1 < w2.heap.size := by omega)
        | (go_at_call 136; refine (mix_at HR2 _ (by omega) (fun i hi => (hb2.cell (p := ⟨3, i, none⟩) (by exact hg')).trans (HKr.out i hi))).mono ?_; rintro e w3 ⟨rfl, hb3⟩; obtain ⟨q0, q1, q2, q3, q4, q5, q6, q7, p0, p1, p2, p3, p4, p5, p6, p7⟩ := eight_free ((hb3.block _ hz2).trans ((hb2.block _ (by exact hB)).trans HST.out))))
      all_goals go_wp2_with fail
      all_goals
        go_roundw
        case rel =>
          obtain ⟨o', ho', ho2⟩ := off_next (c := c) (o := o) (g := g1)
          refine ⟨k + 1, o', n - 64, c - 64, by rw [ho'], ?_, by omega, by unfold maxLen; omega, ?_⟩
          · have h1 := HN.out
            have h2 := HO.out
            exact hide (by omega)
          · exact hide (sum_next HW.out hb2 hb3 HR.out HR2.out)
        case measure => simp [lenOf]; omega
    · obtain rfl : n = 0 := by omega
      have hk : k = nb x := by have := HN.out; have := HL.out; unfold nb; omega
      subst hk
      have hst := HW.out.st
      have hrw := HW.out.out
      have hbel := HW.out.bel
      obtain ⟨R, hr⟩ : ∃ R, hashTo K x (nb x) = R := ⟨_, rfl⟩
      rw [hr] at hst
      have HR0 := hide hr
      clear hr
      obtain ⟨r, hr⟩ : ∃ r : R8, R = r := ⟨_, rfl⟩
      obtain ⟨s0, s1, s2, s3, s4, s5, s6, s7⟩ := r
      have HR := hide hr
      rw [hr] at hst
      clear hr
      obtain ⟨k0, k1, k2, k3, k4, k5, k6, k7, f0, f1, f2, f3, f4, f5, f6, f7⟩ := eight_free hst
      have HRW := hide hrw; clear hrw hst
      have hwlt : w.heap.size < wr.heap.size := (Array.getElem?_eq_some_iff.1 HRW.out).1
      have HONE := hide (sumTo_all R)
      go_wp2_with (first
        | (go_at_call 138; refine (bytes_at HR _).mono ?_; rintro e w2 ⟨rfl, hb2⟩; have H3 := hide ((hb2.block _ hwlt).trans HRW.out); have H4 := hide (hbel.trans (hb2.mono (Nat.le_of_lt hwlt))); clear hb2)
        | (refine wpList_store_row rfl 164 _ _ rfl w.heap.size (sumTo R 32) rfl rfl _ (sumTo iv 0) H3.out (sumTo_info R 32) ((sumTo_size iv 0).trans (sumTo_size R 32).symm) HONE.out ?_))
      have h3 := setRow_heap w2 w.heap.size _ (sumTo R 32) _ _ H3.out
      have hb3 := below_setRow H4.out (g := w.heap.size) (by omega) (sumTo R 32)
      refine bodyPost_ret (results_cell_row rfl _ _ w.heap.size _ _ (0, 0) _ rfl h3 Tryz.underlying164 rfl (sumTo_info R 32)) rfl ⟨by rw [HR0.out], hb3⟩
end Go.Proofs.YtgdmgmklncmanaaGreatDoor
