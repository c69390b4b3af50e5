/- Of Ins: HsW1, HsW2. -/
import Derived.Test.YtgdmgmklncmanaaGreatDoorIns8
import Derived.BigQuiet
import Derived.Test.YtgdmgmklncmanaaGreatDoorIns22
/- The walks over the document's own great numbers: words of 16 bits, their products. -/
namespace Go.Proofs.YtgdmgmklncmanaaGreatDoor
open Go.RowKit

def u64s (L : List Int) : Array Value := (L.map fun n => .int .u64 n).toArray
theorem u64s_get {L : List Int} {j : Nat} (h : j < L.length) : (u64s L)[j]? = some (.int .u64 (L.getD j 0)) := by
  simp [u64s, List.getD, List.getElem?_eq_getElem h]
theorem u64s_set (L : List Int) (j : Nat) (n : Int) : (u64s L).setIfInBounds j (.int .u64 n) = u64s (L.set j n) := by
  simp [u64s, List.map_set]
theorem mask16 (n : Int) (h0 : 0 ≤ n) (h1 : n < 18446744073709551616) : bits BinOp.and IntKind.u64 n 65535 = n % 65536 := by
  obtain ⟨m, rfl⟩ : ∃ m : Nat, n = m := ⟨n.toNat, by omega⟩
  have hm : m % 2 ^ 64 = m := Nat.mod_eq_of_lt (by omega)
  have e : (BitVec.ofInt 64 (m : Int) &&& BitVec.ofInt 64 65535).toNat = m % 65536 := by
    rw [BitVec.toNat_and]
    have e1 : (BitVec.ofInt 64 (m : Int)).toNat = m := by
      rw [BitVec.ofInt_natCast, BitVec.toNat_ofNat, hm]
    have e2 : (BitVec.ofInt 64 65535).toNat = 2 ^ 16 - 1 := by decide
    rw [e1, e2, Nat.and_two_pow_sub_one_eq_mod]
  show IntKind.u64.wrap (((BitVec.ofInt 64 (m : Int) &&& BitVec.ofInt 64 65535).toNat : Nat) : Int) = _
  rw [e]
  have : IntKind.u64.wrap ((m % 65536 : Nat) : Int) = ((m % 65536 : Nat) : Int) % 18446744073709551616 := rfl
  rw [this]
  omega

/-- A number in words of 16 bits, the lowest first. -/
def wideL (y : Int) : List Int := [y % 65536, y / 65536 % 65536, y / 4294967296 % 65536, y / 281474976710656]
theorem wide_any (y : Int) (h0 : 0 ≤ y) (h1 : y < 18446744073709551616) (w : World) :
    Calls Tryz.prog 96 #[.int .u64 y] w fun e w' => e = .returned (.slice (some ⟨w.heap.size, 0, none⟩) 4 4) ∧ w' = w.alloc (.cells (u64s (wideL y)) 125) := by
  have m0 := mask16 y h0 h1
  have m1 := mask16 (y / 65536) (by omega) (by omega)
  have m2 := mask16 (y / 4294967296) (by omega) (by omega)
  go_enter Tryz.func96, Tryz.ntmps96
  go_wp2_with fail
  go_ret
  exact ⟨rfl, rfl⟩

theorem make8 (w : World) : (Instr.makeSlice 126 (.int .i64 8) (.int .i64 8)).run Tryz.prog w = .ok (.slice (some ⟨w.heap.size, 0, none⟩) 8 8) (w.alloc (.cells (u64s (List.replicate 8 0)) 125)) := by kernel_rfl
theorem make12 (w : World) : (Instr.makeSlice 126 (.int .i64 12) (.int .i64 12)).run Tryz.prog w = .ok (.slice (some ⟨w.heap.size, 0, none⟩) 12 12) (w.alloc (.cells (u64s (List.replicate 12 0)) 125)) := by kernel_rfl
/-- One step of a product, of the word k of the second factor: the row so far, what is carried. -/
def tnv (A B : List Int) (i k : Nat) (s : List Int × Int) : Int := ((s.1.getD (i + k) 0 + A.getD i 0 * B.getD k 0 % 18446744073709551616) % 18446744073709551616 + s.2) % 18446744073709551616
def tin (A B : List Int) (i : Nat) (out : List Int) : Nat → List Int × Int
  | 0 => (out, 0)
  | k + 1 => ((tin A B i out k).1.set (i + k) (tnv A B i k (tin A B i out k) % 65536), tnv A B i k (tin A B i out k) / 65536)
theorem tin_len (A B : List Int) (i : Nat) (out : List Int) : ∀ k, (tin A B i out k).1.length = out.length
  | 0 => rfl
  | k + 1 => by rw [tin, List.length_set, tin_len A B i out k]
def tout (A B : List Int) (n : Nat) : Nat → List Int
  | 0 => List.replicate n 0
  | i + 1 => (tin A B i (tout A B n i) 4).1.set (i + 4) (((tin A B i (tout A B n i) 4).1.getD (i + 4) 0 + (tin A B i (tout A B n i) 4).2) % 18446744073709551616)
theorem tout_len (A B : List Int) (n : Nat) : ∀ i, (tout A B n i).length = n
  | 0 => by simp [tout]
  | i + 1 => by rw [tout, List.length_set, tin_len, tout_len A B n i]
def timesL (A B : List Int) : List Int := tout A B (A.length + 4) A.length

structure TmIn (L : List Int) (w wr : World) : Prop where
  row : wr.heap[w.heap.size]? = some (.cells (u64s L) 125 (0, 0))
  bel : Below w.heap.size w wr
theorem TmIn.set {L : List Int} {w wr : World} (h : TmIn L w wr) (j : Nat) {v : Value} {n : Int} (hv : v = .int .u64 n) : TmIn (L.set j n) w (wr.setCell ⟨w.heap.size, j, none⟩ v) := by
  subst hv
  exact ⟨by rw [← u64s_set]; exact heap_setCell_same _ _ j _ _ _ h.row, h.bel.setCell (p := ⟨w.heap.size, j, none⟩) (Nat.le_refl _) _⟩
theorem TmIn.drewN {L : List Int} {w wr : World} (h : TmIn L w wr) (n : Nat) : TmIn L w (wr.drewN n) := ⟨h.row, below_drewN h.bel n⟩

set_option maxRecDepth 8000 in
set_option maxHeartbeats 1000000 in
theorem times4 (A B : List Int) (hA : A.length = 4) (ga gb da db : Nat) (w : World) (hga : ga < w.heap.size) (hgb : gb < w.heap.size)
    (ca : ∀ j, j < 4 → w.cell? ⟨ga, j, none⟩ = some (.int .u64 (A.getD j 0))) (cb : ∀ j, j < 4 → w.cell? ⟨gb, j, none⟩ = some (.int .u64 (B.getD j 0))) :
    Calls Tryz.prog 97 #[.slice (some ⟨ga, 0, none⟩) 4 da, .slice (some ⟨gb, 0, none⟩) 4 db] w fun e w' => e = .returned (.slice (some ⟨w.heap.size, 0, none⟩) 8 8) ∧ w'.heap[w.heap.size]? = some (.cells (u64s (timesL A B)) 125 (0, 0)) ∧ Below w.heap.size w w' := by
  have HT : Hid (timesL A B = tout A B 8 4) := hide (by rw [timesL, hA])
  have HCA := hide ca; have HCB := hide cb
  have mk := make8 w
  clear ca cb hA
  go_enter Tryz.func97, Tryz.ntmps97
  go_wp2_with fail
  clear mk
  go_loopw [6] (fun i wr => ∃ k : Nat, k ≤ 4 ∧ i = .int .i64 k ∧ Hid (TmIn (tout A B 8 k) w wr)) (fun i _ => 4 - (intOf i).toNat)
  case atStart => exact ⟨0, by omega, rfl, hide ⟨heap_alloc_new w _, (Below.refl _ w).alloc (Nat.le_refl _) _⟩⟩
  case round =>
    obtain ⟨i, hi, rfl, HI⟩ := hrel
    by_cases hlt : i < 4
    · have b1 : (i : Int) < 4 := by omega
      go_wp2_with fail
      go_loopw [7, 8] (fun c j wr => ∃ (k : Nat) (cv : Int), k ≤ 4 ∧ j = .int .i64 k ∧ c = .int .u64 cv ∧ Hid ((tin A B i (tout A B 8 i) k).2 = cv) ∧ Hid (TmIn (tin A B i (tout A B 8 i) k).1 w wr)) (fun _ j _ => 4 - (intOf j).toNat)
      case atStart => exact ⟨0, 0, by omega, rfl, rfl, hide rfl, HI⟩
      case round =>
        clear HI
        obtain ⟨k, cv, hk, rfl, rfl, HC, HK⟩ := hrel
        by_cases hlt2 : k < 4
        · have b2 : (k : Int) < 4 := by omega
          obtain ⟨m, hm⟩ : ∃ m, i + k = m := ⟨_, rfl⟩
          have z : (i : Int) + (k : Int) = (m : Int) := by omega
          have l : (m : Int) < 8 := by omega
          have y : IntKind.i64.wrap (m : Int) = (m : Int) := wrap_small m (by omega)
          have hl : (tin A B i (tout A B 8 i) k).1.length = 8 := by rw [tin_len, tout_len]
          have a1 := (HK.out.bel.cell (p := ⟨ga, i, none⟩) hga).trans (HCA.out i (by omega))
          have a2 := (HK.out.bel.cell (p := ⟨gb, k, none⟩) hgb).trans (HCB.out k (by omega))
          have a3 := (row_cell HK.out.row m).trans (u64s_get (by rw [hl]; omega))
          have f3 := row_free HK.out.row m
          obtain ⟨nv, hnv⟩ : ∃ nv, tnv A B i k (tin A B i (tout A B 8 i) k) = nv := ⟨_, rfl⟩
          have hnv' := hnv
          rw [tnv, hm, HC.out] at hnv'
          have nb : 0 ≤ nv ∧ nv < 18446744073709551616 := by rw [← hnv']; omega
          have mk16 := mask16 nv nb.1 nb.2
          have HN : Hid (tin A B i (tout A B 8 i) (k + 1) = ((tin A B i (tout A B 8 i) k).1.set m (nv % 65536), nv / 65536)) := hide (by rw [tin, hm, hnv])
          clear hnv hm hl nb
          generalize A.getD i 0 = av at *
          generalize B.getD k 0 = bv at *
          generalize hL : (tin A B i (tout A B 8 i) k).1 = L at *
          generalize hov : L.getD m 0 = ov at *
          have HNV := hide hnv'
          clear hL hov hnv'
          go_wp2_with fail
          go_quiet (fail)
          go_wp2_with fail
          have he : IntKind.u64.wrap (IntKind.u64.wrap (ov + IntKind.u64.wrap (av * bv)) + cv) = nv := HNV.out
          rw [he, mk16]
          refine ⟨⟨k + 1, nv / 65536, by omega, by go_num, rfl, hide (by rw [HN.out]), hide (by rw [HN.out]; exact (HK.out.drewN _).set m rfl)⟩, by simp [intOf]; omega⟩
        · obtain rfl : k = 4 := by omega
          obtain ⟨m, hm⟩ : ∃ m, i + 4 = m := ⟨_, rfl⟩
          have z : (i : Int) + 4 = (m : Int) := by omega
          have l : (m : Int) < 8 := by omega
          have y : IntKind.i64.wrap (m : Int) = (m : Int) := wrap_small m (by omega)
          have hl : (tin A B i (tout A B 8 i) 4).1.length = 8 := by rw [tin_len, tout_len]
          have a3 := (row_cell HK.out.row m).trans (u64s_get (by rw [hl]; omega))
          have f3 := row_free HK.out.row m
          have HN : Hid (tout A B 8 (i + 1) = (tin A B i (tout A B 8 i) 4).1.set m (((tin A B i (tout A B 8 i) 4).1.getD m 0 + cv) % 18446744073709551616)) := hide (by rw [tout, hm, HC.out])
          clear hm hl
          generalize hL : (tin A B i (tout A B 8 i) 4).1 = L at *
          generalize hov : L.getD m 0 = ov at *
          clear hL hov
          go_wp2_with fail
          refine ⟨⟨i + 1, by omega, by go_num, hide (by rw [HN.out]; exact HK.out.set m rfl)⟩, by simp [intOf]; omega⟩
    · obtain rfl : i = 4 := by omega
      go_wp2_with fail
      go_ret
      exact ⟨rfl, by rw [HT.out]; exact HI.out.row, HI.out.bel⟩
set_option maxRecDepth 8000 in
set_option maxHeartbeats 1000000 in
theorem times8 (A B : List Int) (hA : A.length = 8) (ga gb da db : Nat) (w : World) (hga : ga < w.heap.size) (hgb : gb < w.heap.size)
    (ca : ∀ j, j < 8 → w.cell? ⟨ga, j, none⟩ = some (.int .u64 (A.getD j 0))) (cb : ∀ j, j < 4 → w.cell? ⟨gb, j, none⟩ = some (.int .u64 (B.getD j 0))) :
    Calls Tryz.prog 97 #[.slice (some ⟨ga, 0, none⟩) 8 da, .slice (some ⟨gb, 0, none⟩) 4 db] w fun e w' => e = .returned (.slice (some ⟨w.heap.size, 0, none⟩) 12 12) ∧ w'.heap[w.heap.size]? = some (.cells (u64s (timesL A B)) 125 (0, 0)) ∧ Below w.heap.size w w' := by
  have HT : Hid (timesL A B = tout A B 12 8) := hide (by rw [timesL, hA])
  have HCA := hide ca; have HCB := hide cb
  have mk := make12 w
  clear ca cb hA
  go_enter Tryz.func97, Tryz.ntmps97
  go_wp2_with fail
  clear mk
  go_loopw [6] (fun i wr => ∃ k : Nat, k ≤ 8 ∧ i = .int .i64 k ∧ Hid (TmIn (tout A B 12 k) w wr)) (fun i _ => 8 - (intOf i).toNat)
  case atStart => exact ⟨0, by omega, rfl, hide ⟨heap_alloc_new w _, (Below.refl _ w).alloc (Nat.le_refl _) _⟩⟩
  case round =>
    obtain ⟨i, hi, rfl, HI⟩ := hrel
    by_cases hlt : i < 8
    · have b1 : (i : Int) < 8 := by omega
      go_wp2_with fail
      go_loopw [7, 8] (fun c j wr => ∃ (k : Nat) (cv : Int), k ≤ 4 ∧ j = .int .i64 k ∧ c = .int .u64 cv ∧ Hid ((tin A B i (tout A B 12 i) k).2 = cv) ∧ Hid (TmIn (tin A B i (tout A B 12 i) k).1 w wr)) (fun _ j _ => 4 - (intOf j).toNat)
      case atStart => exact ⟨0, 0, by omega, rfl, rfl, hide rfl, HI⟩
      case round =>
        clear HI
        obtain ⟨k, cv, hk, rfl, rfl, HC, HK⟩ := hrel
        by_cases hlt2 : k < 4
        · have b2 : (k : Int) < 4 := by omega
          obtain ⟨m, hm⟩ : ∃ m, i + k = m := ⟨_, rfl⟩
          have z : (i : Int) + (k : Int) = (m : Int) := by omega
          have l : (m : Int) < 12 := by omega
          have y : IntKind.i64.wrap (m : Int) = (m : Int) := wrap_small m (by omega)
          have hl : (tin A B i (tout A B 12 i) k).1.length = 12 := by rw [tin_len, tout_len]
          have a1 := (HK.out.bel.cell (p := ⟨ga, i, none⟩) hga).trans (HCA.out i (by omega))
          have a2 := (HK.out.bel.cell (p := ⟨gb, k, none⟩) hgb).trans (HCB.out k (by omega))
          have a3 := (row_cell HK.out.row m).trans (u64s_get (by rw [hl]; omega))
          have f3 := row_free HK.out.row m
          obtain ⟨nv, hnv⟩ : ∃ nv, tnv A B i k (tin A B i (tout A B 12 i) k) = nv := ⟨_, rfl⟩
          have hnv' := hnv
          rw [tnv, hm, HC.out] at hnv'
          have nb : 0 ≤ nv ∧ nv < 18446744073709551616 := by rw [← hnv']; omega
          have mk16 := mask16 nv nb.1 nb.2
          have HN : Hid (tin A B i (tout A B 12 i) (k + 1) = ((tin A B i (tout A B 12 i) k).1.set m (nv % 65536), nv / 65536)) := hide (by rw [tin, hm, hnv])
          clear hnv hm hl nb
          generalize A.getD i 0 = av at *
          generalize B.getD k 0 = bv at *
          generalize hL : (tin A B i (tout A B 12 i) k).1 = L at *
          generalize hov : L.getD m 0 = ov at *
          have HNV := hide hnv'
          clear hL hov hnv'
          go_wp2_with fail
          go_quiet (fail)
          go_wp2_with fail
          have he : IntKind.u64.wrap (IntKind.u64.wrap (ov + IntKind.u64.wrap (av * bv)) + cv) = nv := HNV.out
          rw [he, mk16]
          refine ⟨⟨k + 1, nv / 65536, by omega, by go_num, rfl, hide (by rw [HN.out]), hide (by rw [HN.out]; exact (HK.out.drewN _).set m rfl)⟩, by simp [intOf]; omega⟩
        · obtain rfl : k = 4 := by omega
          obtain ⟨m, hm⟩ : ∃ m, i + 4 = m := ⟨_, rfl⟩
          have z : (i : Int) + 4 = (m : Int) := by omega
          have l : (m : Int) < 12 := by omega
          have y : IntKind.i64.wrap (m : Int) = (m : Int) := wrap_small m (by omega)
          have hl : (tin A B i (tout A B 12 i) 4).1.length = 12 := by rw [tin_len, tout_len]
          have a3 := (row_cell HK.out.row m).trans (u64s_get (by rw [hl]; omega))
          have f3 := row_free HK.out.row m
          have HN : Hid (tout A B 12 (i + 1) = (tin A B i (tout A B 12 i) 4).1.set m (((tin A B i (tout A B 12 i) 4).1.getD m 0 + cv) % 18446744073709551616)) := hide (by rw [tout, hm, HC.out])
          clear hm hl
          generalize hL : (tin A B i (tout A B 12 i) 4).1 = L at *
          generalize hov : L.getD m 0 = ov at *
          clear hL hov
          go_wp2_with fail
          refine ⟨⟨i + 1, by omega, by go_num, hide (by rw [HN.out]; exact HK.out.set m rfl)⟩, by simp [intOf]; omega⟩
    · obtain rfl : i = 8 := by omega
      go_wp2_with fail
      go_ret
      exact ⟨rfl, by rw [HT.out]; exact HI.out.row, HI.out.bel⟩
end Go.Proofs.YtgdmgmklncmanaaGreatDoor
/- The walks over the document's own great numbers: powers, comparing, roots bit by bit. -/
namespace Go.Proofs.YtgdmgmklncmanaaGreatDoor
open Go.RowKit

def powL (y : Int) (cube : Bool) : List Int := if cube = true then timesL (timesL (wideL y) (wideL y)) (wideL y) else timesL (wideL y) (wideL y)
theorem timesL_len (A B : List Int) : (timesL A B).length = A.length + 4 := tout_len A B _ _
theorem powL_f (y : Int) : powL y false = timesL (wideL y) (wideL y) := if_neg (by decide)
theorem powL_t (y : Int) : powL y true = timesL (timesL (wideL y) (wideL y)) (wideL y) := if_pos rfl
theorem wide2_len (y : Int) : (timesL (wideL y) (wideL y)).length = 8 := timesL_len _ _
theorem powL_len (y : Int) (cube : Bool) : (powL y cube).length = if cube = true then 12 else 8 := by
  unfold powL; split <;> simp [timesL_len, wideL]
theorem u64s_cells {w : World} {g : Nat} {L : List Int} {t : TypeId} (h : w.heap[g]? = some (.cells (u64s L) t (0, 0))) (n : Nat) (hn : n = L.length) : ∀ j, j < n → w.cell? ⟨g, j, none⟩ = some (.int .u64 (L.getD j 0)) := by
  intro j hj
  rw [row_cell h, u64s_get (by omega)]
theorem lt_of_block {w : World} {g : Nat} {o : Obj} (h : w.heap[g]? = some o) : g < w.heap.size := (Array.getElem?_eq_some_iff.1 h).1

set_option maxHeartbeats 400000 in
theorem power_any (y : Int) (h0 : 0 ≤ y) (h1 : y < 18446744073709551616) (cube : Bool) (n : Nat) (hn : n = if cube = true then 12 else 8) (w : World) :
    Calls Tryz.prog 73 #[.int .u64 y, .bool cube] w fun e w' => ∃ g, e = .returned (.slice (some ⟨g, 0, none⟩) n n) ∧ w.heap.size ≤ g ∧ w'.heap[g]? = some (.cells (u64s (powL y cube)) 125 (0, 0)) ∧ Below w.heap.size w w' := by
  cases cube
  · subst hn
    go_enter Tryz.func73, Tryz.ntmps73
    go_wp2_with fail
    refine (wide_any y h0 h1 _).mono ?_
    rintro e w1 ⟨rfl, hw1⟩
    have hg1 : w1.heap[w.heap.size]? = some (.cells (u64s (wideL y)) 125 (0, 0)) := by rw [hw1]; exact heap_alloc_new w _
    have hb1 : Below w.heap.size w w1 := by rw [hw1]; exact (Below.refl _ w).alloc (Nat.le_refl _) _
    clear hw1
    have HG1 := hide hg1; have HB1 := hide hb1; clear hg1 hb1
    go_wp2_with fail
    refine (times4 (wideL y) (wideL y) rfl w.heap.size w.heap.size 4 4 w1 (lt_of_block HG1.out) (lt_of_block HG1.out) (u64s_cells HG1.out 4 rfl) (u64s_cells HG1.out 4 rfl)).mono ?_
    rintro e w2 ⟨rfl, hg2, hb2⟩
    have HG2 := hide hg2; have HB2 := hide hb2; clear hg2 hb2
    go_wp2_with fail
    go_ret
    exact ⟨_, rfl, HB1.out.size, by rw [powL_f]; exact HG2.out, HB1.out.trans (HB2.out.mono HB1.out.size)⟩
  · subst hn
    go_enter Tryz.func73, Tryz.ntmps73
    go_wp2_with fail
    refine (wide_any y h0 h1 _).mono ?_
    rintro e w1 ⟨rfl, hw1⟩
    have hg1 : w1.heap[w.heap.size]? = some (.cells (u64s (wideL y)) 125 (0, 0)) := by rw [hw1]; exact heap_alloc_new w _
    have hb1 : Below w.heap.size w w1 := by rw [hw1]; exact (Below.refl _ w).alloc (Nat.le_refl _) _
    clear hw1
    have HG1 := hide hg1; have HB1 := hide hb1; clear hg1 hb1
    go_wp2_with fail
    refine (times4 (wideL y) (wideL y) rfl w.heap.size w.heap.size 4 4 w1 (lt_of_block HG1.out) (lt_of_block HG1.out) (u64s_cells HG1.out 4 rfl) (u64s_cells HG1.out 4 rfl)).mono ?_
    rintro e w2 ⟨rfl, hg2, hb2⟩
    have HG2 := hide hg2; have HB2 := hide hb2; clear hg2 hb2
    have HG3 := hide ((HB2.out.block w.heap.size (lt_of_block HG1.out)).trans HG1.out)
    go_wp2_with fail
    refine (times8 (timesL (wideL y) (wideL y)) (wideL y) (wide2_len y) w1.heap.size w.heap.size 8 4 w2 (lt_of_block HG2.out) (lt_of_block HG3.out) (u64s_cells HG2.out 8 (wide2_len y).symm) (u64s_cells HG3.out 4 rfl)).mono ?_
    rintro e w3 ⟨rfl, hg4, hb4⟩
    have HG4 := hide hg4; have HB4 := hide hb4; clear hg4 hb4
    go_wp2_with fail
    go_ret
    have s1 := HB1.out.size
    have s2 := HB2.out.size
    exact ⟨_, rfl, by omega, by rw [powL_t]; exact HG4.out, (HB1.out.trans (HB2.out.mono s1)).trans (HB4.out.mono (by omega))⟩

/-- Is a number, in words, above p times 2 to the 16 n-th? Of the first k words yet. -/
def abv (L : List Int) (n : Nat) (p : Int) : Nat → Int → Bool → Bool
  | 0, high, rest => decide (p < high) || ((high == p) && rest)
  | k + 1, high, rest => if n ≤ k then (if 1099511627776 < high then true else abv L n p k ((high * 65536 % 18446744073709551616 + L.getD k 0) % 18446744073709551616) rest) else abv L n p k high (rest || decide (0 < L.getD k 0))

set_option maxRecDepth 8000 in
set_option maxHeartbeats 1000000 in
theorem above_any (L : List Int) (n : Nat) (cube : Bool) (hn : n = if cube = true then 6 else 4) (m : Nat) (hm : m = if cube = true then 12 else 8) (p : Int) (hp0 : 0 ≤ p) (hp1 : p < 1000000) (g : Nat) (w : World)
    (hc : ∀ j, j < m → w.cell? ⟨g, j, none⟩ = some (.int .u64 (L.getD j 0))) :
    Calls Tryz.prog 74 #[.slice (some ⟨g, 0, none⟩) m m, .int .i64 p, .bool cube] w fun e w' => e = .returned (.bool (abv L n p m 0 false)) ∧ w' = w := by
  have hp : IntKind.u64.wrap p = p := by
    have : IntKind.u64.wrap p = p % 18446744073709551616 := rfl
    omega
  have HC := hide hc; clear hc
  cases cube
  · simp only [Bool.false_eq_true, if_false] at hn hm
    subst hn hm
    go_enter Tryz.func74, Tryz.ntmps74
    go_wp2_with fail
    go_loop [8, 9, 10] (fun h r i => ∃ (k : Nat) (hv : Int) (rb : Bool), k ≤ 8 ∧ i = .int .i64 ((k : Int) - 1) ∧ h = .int .u64 hv ∧ r = .bool rb ∧ Hid (abv L 4 p 8 0 false = abv L 4 p k hv rb)) (fun _ _ i => (intOf i + 1).toNat)
    case atStart => exact ⟨8, 0, false, by omega, rfl, rfl, rfl, hide rfl⟩
    case round =>
      obtain ⟨k, hv, rb, hk, rfl, rfl, rfl, HR⟩ := hrel
      cases k with
      | zero =>
        have HR' : Hid (abv L 4 p 8 0 false = (decide (p < hv) || ((hv == p) && rb))) := HR
        clear HR
        by_cases c1 : p < hv
        · go_wp2_with fail
          go_ret
          exact ⟨ret_bool (by rw [HR'.out]; simp [c1]), rfl⟩
        · by_cases c2 : hv = p
          · subst c2
            cases rb
            all_goals
              go_wp2_with fail
              go_ret
              exact ⟨ret_bool (by rw [HR'.out]; simp), rfl⟩
          · have c3 : (hv == p) = false := by simp [c2]
            go_wp2_with fail
            go_ret
            exact ⟨ret_bool (by rw [HR'.out]; simp [c1, c2]), rfl⟩
      | succ j =>
        have ej : ((j + 1 : Nat) : Int) - 1 = (j : Int) := by omega
        rw [ej]
        have b0 : (0 : Int) ≤ (j : Int) := by omega
        have b1 : (j : Int) < 8 := by omega
        have a1 := HC.out j (by omega)
        by_cases c1 : 4 ≤ j
        · have b2 : (4 : Int) ≤ (j : Int) := by omega
          by_cases c2 : 1099511627776 < hv
          · have HR' : Hid (abv L 4 p 8 0 false = true) := hide (by rw [HR.out, abv, if_pos c1, if_pos c2])
            clear HR
            go_wp2_with fail
            go_ret
            exact ⟨ret_bool (by rw [HR'.out]), rfl⟩
          · have HR' : Hid (abv L 4 p 8 0 false = abv L 4 p j ((hv * 65536 % 18446744073709551616 + L.getD j 0) % 18446744073709551616) rb) := hide (by rw [HR.out, abv, if_pos c1, if_neg c2])
            clear HR
            generalize L.getD j 0 = lv at *
            go_wp2_with fail
            refine ⟨⟨j, _, rb, by omega, by go_num, rfl, rfl, HR'⟩, by simp [intOf]⟩
        · have b2 : ¬ (4 : Int) ≤ (j : Int) := by omega
          have HR' : Hid (abv L 4 p 8 0 false = abv L 4 p j hv (rb || decide (0 < L.getD j 0))) := hide (by rw [HR.out, abv, if_neg c1])
          clear HR
          generalize L.getD j 0 = lv at *
          cases rb
          all_goals
            by_cases c3 : 0 < lv
            all_goals
              go_wp2_with fail
              refine ⟨⟨j, hv, _, by omega, by go_num, rfl, rfl, by simpa [c3] using HR'⟩, by simp [intOf]⟩
  · simp only [if_true] at hn hm
    subst hn hm
    go_enter Tryz.func74, Tryz.ntmps74
    go_wp2_with fail
    go_loop [8, 9, 10] (fun h r i => ∃ (k : Nat) (hv : Int) (rb : Bool), k ≤ 12 ∧ i = .int .i64 ((k : Int) - 1) ∧ h = .int .u64 hv ∧ r = .bool rb ∧ Hid (abv L 6 p 12 0 false = abv L 6 p k hv rb)) (fun _ _ i => (intOf i + 1).toNat)
    case atStart => exact ⟨12, 0, false, by omega, rfl, rfl, rfl, hide rfl⟩
    case round =>
      obtain ⟨k, hv, rb, hk, rfl, rfl, rfl, HR⟩ := hrel
      cases k with
      | zero =>
        have HR' : Hid (abv L 6 p 12 0 false = (decide (p < hv) || ((hv == p) && rb))) := HR
        clear HR
        by_cases c1 : p < hv
        · go_wp2_with fail
          go_ret
          exact ⟨ret_bool (by rw [HR'.out]; simp [c1]), rfl⟩
        · by_cases c2 : hv = p
          · subst c2
            cases rb
            all_goals
              go_wp2_with fail
              go_ret
              exact ⟨ret_bool (by rw [HR'.out]; simp), rfl⟩
          · have c3 : (hv == p) = false := by simp [c2]
            go_wp2_with fail
            go_ret
            exact ⟨ret_bool (by rw [HR'.out]; simp [c1, c2]), rfl⟩
      | succ j =>
        have ej : ((j + 1 : Nat) : Int) - 1 = (j : Int) := by omega
        rw [ej]
        have b0 : (0 : Int) ≤ (j : Int) := by omega
        have b1 : (j : Int) < 12 := by omega
        have a1 := HC.out j (by omega)
        by_cases c1 : 6 ≤ j
        · have b2 : (6 : Int) ≤ (j : Int) := by omega
          by_cases c2 : 1099511627776 < hv
          · have HR' : Hid (abv L 6 p 12 0 false = true) := hide (by rw [HR.out, abv, if_pos c1, if_pos c2])
            clear HR
            go_wp2_with fail
            go_ret
            exact ⟨ret_bool (by rw [HR'.out]), rfl⟩
          · have HR' : Hid (abv L 6 p 12 0 false = abv L 6 p j ((hv * 65536 % 18446744073709551616 + L.getD j 0) % 18446744073709551616) rb) := hide (by rw [HR.out, abv, if_pos c1, if_neg c2])
            clear HR
            generalize L.getD j 0 = lv at *
            go_wp2_with fail
            refine ⟨⟨j, _, rb, by omega, by go_num, rfl, rfl, HR'⟩, by simp [intOf]⟩
        · have b2 : ¬ (6 : Int) ≤ (j : Int) := by omega
          have HR' : Hid (abv L 6 p 12 0 false = abv L 6 p j hv (rb || decide (0 < L.getD j 0))) := hide (by rw [HR.out, abv, if_neg c1])
          clear HR
          generalize L.getD j 0 = lv at *
          cases rb
          all_goals
            by_cases c3 : 0 < lv
            all_goals
              go_wp2_with fail
              refine ⟨⟨j, hv, _, by omega, by go_num, rfl, rfl, by simpa [c3] using HR'⟩, by simp [intOf]⟩
/-- The first bits of a root: x, and as many bits yet. -/
def frac (p : Int) (cube : Bool) (n m : Nat) : Nat → Int → Int
  | 0, x => x
  | b + 1, x => if abv (powL ((x + 2 ^ b % 18446744073709551616) % 18446744073709551616) cube) n p m 0 false = true then frac p cube n m b x else frac p cube n m b ((x + 2 ^ b % 18446744073709551616) % 18446744073709551616)
def fracP (p : Int) (cube : Bool) : Int := frac p cube (if cube = true then 6 else 4) (if cube = true then 12 else 8) 38 0 % 4294967296

set_option maxRecDepth 8000 in
set_option maxHeartbeats 1000000 in
theorem fraction_any (p : Int) (hp0 : 0 ≤ p) (hp1 : p < 1000000) (cube : Bool) (w : World) :
    Calls Tryz.prog 51 #[.int .i64 p, .bool cube] w fun e w' => e = .returned (.int .u32 (fracP p cube)) ∧ Below w.heap.size w w' := by
  obtain ⟨n, hn⟩ : ∃ n, n = if cube = true then 6 else 4 := ⟨_, rfl⟩
  obtain ⟨m, hm⟩ : ∃ m, m = if cube = true then 12 else 8 := ⟨_, rfl⟩
  have HF : Hid (fracP p cube = frac p cube n m 38 0 % 4294967296) := hide (by rw [fracP, hn, hm])
  have HN := hide hn; have HM := hide hm
  clear hn hm
  go_enter Tryz.func51, Tryz.ntmps51
  go_wp2_with fail
  go_loopw [5, 6] (fun x b wr => ∃ (k : Nat) (xv : Int), k ≤ 38 ∧ b = .int .i64 ((k : Int) - 1) ∧ x = .int .u64 xv ∧ Hid (frac p cube n m 38 0 = frac p cube n m k xv) ∧ Hid (Below w.heap.size w wr)) (fun _ b _ => (intOf b + 1).toNat)
  case atStart => exact ⟨38, 0, by omega, rfl, rfl, hide rfl, hide (Below.refl _ w)⟩
  case round =>
    obtain ⟨k, xv, hk, rfl, rfl, HR, HB⟩ := hrel
    cases k with
    | zero =>
      have HR' : Hid (fracP p cube = xv % 4294967296) := hide (by rw [HF.out, HR.out, frac])
      clear HR HF
      go_wp2_with fail
      go_ret
      exact ⟨ret_int (by rw [HR'.out]), HB.out⟩
    | succ j =>
      have ej : ((j + 1 : Nat) : Int) - 1 = (j : Int) := by omega
      rw [ej]
      have b0 : (0 : Int) ≤ (j : Int) := by omega
      obtain ⟨y, hy⟩ : ∃ y, (xv + 2 ^ j % 18446744073709551616) % 18446744073709551616 = y := ⟨_, rfl⟩
      have hf : frac p cube n m 38 0 = if abv (powL y cube) n p m 0 false = true then frac p cube n m j xv else frac p cube n m j y := by rw [HR.out, frac, hy]
      have HY := hide hy; have HFR := hide hf
      clear hy hf HR
      go_wp2_with fail
      have he : IntKind.u64.wrap (xv + IntKind.u64.wrap (2 ^ j)) = y := HY.out
      have y0 : 0 ≤ y ∧ y < 18446744073709551616 := by rw [← HY.out]; omega
      rw [he]
      refine (power_any y y0.1 y0.2 cube m HM.out _).mono ?_
      rintro e w1 ⟨g, rfl, hg, hgb, hb1⟩
      have HG := hide hgb
      have HB1 := hide (HB.out.trans (hb1.mono HB.out.size))
      clear hgb hb1 he y0 hg
      obtain ⟨ab, hab⟩ : ∃ ab, abv (powL y cube) n p m 0 false = ab := ⟨_, rfl⟩
      have HAB := hide hab
      have hf := HFR.out
      rw [hab] at hf
      have HFR' := hide hf
      clear hab hf HFR
      cases ab
      · have HFR2 : Hid (frac p cube n m 38 0 = frac p cube n m j y) := hide (by rw [HFR'.out]; rfl)
        clear HFR'
        go_wp2_with fail
        refine (above_any (powL y cube) n cube HN.out m HM.out p hp0 hp1 g _ (u64s_cells HG.out m (by rw [powL_len]; exact HM.out))).mono ?_
        rintro e w2 ⟨rfl, rfl⟩
        rw [HAB.out]
        go_wp2_with fail
        refine ⟨⟨j, y, by omega, by go_num, rfl, HFR2, HB1⟩, by simp [intOf]⟩
      · have HFR2 : Hid (frac p cube n m 38 0 = frac p cube n m j xv) := hide (by rw [HFR'.out]; rfl)
        clear HFR'
        go_wp2_with fail
        refine (above_any (powL y cube) n cube HN.out m HM.out p hp0 hp1 g _ (u64s_cells HG.out m (by rw [powL_len]; exact HM.out))).mono ?_
        rintro e w2 ⟨rfl, rfl⟩
        rw [HAB.out]
        go_wp2_with fail
        refine ⟨⟨j, xv, by omega, by go_num, rfl, HFR2, HB1⟩, by simp [intOf]⟩
end Go.Proofs.YtgdmgmklncmanaaGreatDoor
