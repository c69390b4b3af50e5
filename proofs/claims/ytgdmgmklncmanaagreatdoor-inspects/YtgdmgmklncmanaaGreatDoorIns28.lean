/- Of Ins: HsW5. -/
import Derived.Test.YtgdmgmklncmanaaGreatDoorIns27
/- The walk over one block of the document's hash. -/
namespace Go.Proofs.YtgdmgmklncmanaaGreatDoor
open Go.RowKit

theorem rturn_q (x k : Int) (hk : 1 ≤ k) (hk' : k ≤ 31) (w : World) :
    Calls Tryz.prog 75 #[.int .u32 x, .int .i64 k] w fun e w' => e = .returned (.int .u32 (rot x k.toNat)) ∧ ∃ m, w' = w.drewN m := by
  obtain ⟨n, rfl⟩ : ∃ n : Nat, k = n := ⟨k.toNat, by omega⟩
  go_enter Tryz.func75, Tryz.ntmps75
  go_wp2
  go_region
  all_goals go_wp2_with fail
  all_goals go_ret
  all_goals exact ⟨rfl, 1, rfl⟩
theorem make64 (w : World) : (Instr.makeSlice 76 (.int .i64 64) (.int .i64 64)).run Tryz.prog w = .ok (.slice (some ⟨w.heap.size, 0, none⟩) 64 64) (w.alloc (.cells (Array.replicate 64 (.int .u32 0)) 110)) := by kernel_rfl
/-- A block's bytes. -/
def bs (s : List UInt8) (j : Nat) : Int := ((s.getD j 0).toNat : Int)
structure BlIn (b : Nat → Int) (k : Nat) (w wr : World) : Prop where
  row : wr.heap[w.heap.size]? = some (.cells (schTo b k) 110 (0, 0))
  bel : Below w.heap.size w wr
theorem BlIn.next {b : Nat → Int} {k : Nat} {w wr : World} (h : BlIn b k w wr) {u : Value} (hu : u = .int .u32 (wf b k)) : BlIn b (k + 1) w (wr.setCell ⟨w.heap.size, k, none⟩ u) := by
  subst hu
  exact ⟨heap_setCell_same _ _ k _ _ _ h.row, h.bel.setCell (p := ⟨w.heap.size, k, none⟩) (Nat.le_refl _) _⟩
theorem BlIn.drew {b : Nat → Int} {k : Nat} {w wr : World} (h : BlIn b k w wr) : BlIn b k w wr.drew := ⟨h.row, h.bel.drew⟩
theorem BlIn.drewN {b : Nat → Int} {k : Nat} {w wr : World} (h : BlIn b k w wr) (n : Nat) : BlIn b k w (wr.drewN n) := ⟨h.row, below_drewN h.bel n⟩
theorem byte_at {s : List UInt8} (m : Nat) (h : m < s.length) : ∃ c : UInt8, (⟨s.toArray⟩ : ByteArray)[m]'(by show m < s.length; exact h) = c ∧ bs s m = c.toNat := by
  refine ⟨_, rfl, ?_⟩
  have : (⟨s.toArray⟩ : ByteArray)[m]'(by show m < s.length; exact h) = s[m] := rfl
  rw [this, bs, List.getD, List.getElem?_eq_getElem h]; rfl
theorem wf_high2 {b : Nat → Int} {k : Nat} (h : ¬ k < 16) : wf b k = (wf b (k - 16) + wf b (k - 7) + sS0 (wf b (k - 15)) + sS1 (wf b (k - 2))) % 4294967296 := by
  rw [wf_high h]
  congr 1; omega

theorem wrap_four2 (a c d e : Int) : Value.int .u32 ((((a + c) % 4294967296 + d) % 4294967296 + e) % 4294967296) = .int .u32 ((a + c + d + e) % 4294967296) := by congr 1; omega
theorem vals_nth (r : R8) : ∀ j, j < 8 → r.vals.toList[j]? = some (.int .u32 (r.nth j))
  | 0, _ => rfl | 1, _ => rfl | 2, _ => rfl | 3, _ => rfl | 4, _ => rfl | 5, _ => rfl | 6, _ => rfl | 7, _ => rfl
theorem vals_one (r : R8) : ∀ u ∈ r.vals.toList, u.oneCell' = true := by
  intro u hu
  simp [R8.vals] at hu
  rcases hu with rfl | rfl | rfl | rfl | rfl | rfl | rfl | rfl <;> rfl
theorem news_at {r : R8} {g : Nat} {w : World} (h : ∀ j, j < 8 → w.cell? ⟨g, j, none⟩ = some (.int .u32 (r.nth j))) : ∀ j u, r.vals.toList[j]? = some u → w.cell? ((⟨g, 0, none⟩ : Addr).add j) = some u := by
  intro j u hu
  have hj : j < 8 := (List.getElem?_eq_some_iff.1 hu).1
  rw [vals_nth r j hj] at hu
  have hadd : (⟨g, 0, none⟩ : Addr).add j = ⟨g, j, none⟩ := by unfold Addr.add; split <;> simp_all
  rw [hadd, h j hj, hu]

structure V2In (b : Nat → Int) (w : World) (v : Value) (r : R8) (wr : World) : Prop where
  own : wr.ownsRow (w.heap.size + 1) 110 1 v 8 r.vals.toList
  row : wr.heap[w.heap.size]? = some (.cells (schTo b 64) 110 (0, 0))
  bel : Below w.heap.size w wr
theorem V2In.drewN {b : Nat → Int} {w : World} {v : Value} {r : R8} {wr : World} (h : V2In b w v r wr) (n : Nat) : V2In b w v r (wr.drewN n) := ⟨h.own, h.row, below_drewN h.bel n⟩
theorem V2In.build {b : Nat → Int} {w : World} {v : Value} {r : R8} {wr : World} (h : V2In b w v r wr) (s : R8) {cs : Array Value} (hc : cs = s.vals) : V2In b w (.slice (some ⟨wr.heap.size, 0, none⟩) 8 8) s (wr.alloc (.cells cs 110)) := by
  subst hc
  have hl := lt_of_block h.row
  exact ⟨World.ownsRow_lit wr s.vals 8 (by omega) (by decide) rfl, (Below.heap_alloc _ _ _ hl).trans h.row, h.bel.alloc h.bel.size _⟩
theorem V2In.drew {b : Nat → Int} {w : World} {v : Value} {r : R8} {wr : World} (h : V2In b w v r wr) : V2In b w v r wr.drew := ⟨h.own, h.row, h.bel.drew⟩
theorem V2In.cells {b : Nat → Int} {w : World} {g c : Nat} {r : R8} {wr : World} (h : V2In b w (.slice (some ⟨g, 0, none⟩) 8 c) r wr) (j : Nat) (hj : j < 8) : wr.cell? ⟨g, j, none⟩ = some (.int .u32 (r.nth j)) := by
  rw [h.own.cellAt j (by omega), vals_nth r j hj]
theorem next_vals (r : R8) (k x : Int) : #[.int .u32 ((r.nth 7 + sB1 (r.nth 4) + chs (r.nth 4) (r.nth 5) (r.nth 6) + k + x + (sB0 (r.nth 0) + mjs (r.nth 0) (r.nth 1) (r.nth 2))) % 4294967296), .int .u32 (r.nth 0), .int .u32 (r.nth 1), .int .u32 (r.nth 2),
    .int .u32 ((r.nth 3 + (r.nth 7 + sB1 (r.nth 4) + chs (r.nth 4) (r.nth 5) (r.nth 6) + k + x)) % 4294967296), .int .u32 (r.nth 4), .int .u32 (r.nth 5), .int .u32 (r.nth 6)] = (r.next k x).vals := by
  obtain ⟨a, b, c, d, e, f, g, h⟩ := r
  simp only [R8.nth, R8.next, R8.vals, R8.t1, R8.t2]
  generalize h + sB1 e + chs e f g + k + x = T
  generalize sB0 a + mjs a b c = U
  rw [show (T % 4294967296 + U % 4294967296) % 4294967296 = (T + U) % 4294967296 from by omega, show (d + T % 4294967296) % 4294967296 = (d + T) % 4294967296 from by omega]
theorem plus_nth (r s : R8) : ∀ j, (R8.plus r s).nth j = (r.nth j + s.nth j) % 4294967296
  | 0 => rfl | 1 => rfl | 2 => rfl | 3 => rfl | 4 => rfl | 5 => rfl | 6 => rfl | _ + 7 => rfl

set_option maxRecDepth 100000 in
set_option maxHeartbeats 2000000 in
theorem rblock_any (r : R8) (K : Nat → Int) (s : List UInt8) (hs : s.length = 64) (gh ch gk ck : Nat) (w : World) (hgh : gh < w.heap.size) (hgk : gk < w.heap.size)
    (ch8 : ∀ j, j < 8 → w.cell? ⟨gh, j, none⟩ = some (.int .u32 (r.nth j))) (ck64 : ∀ j, j < 64 → w.cell? ⟨gk, j, none⟩ = some (.int .u32 (K j))) :
    Calls Tryz.prog 52 #[.slice (some ⟨gh, 0, none⟩) 8 ch, .slice (some ⟨gk, 0, none⟩) 64 ck, .string ⟨s.toArray⟩] w fun e w' => ∃ g c, e = .returned (.slice (some ⟨g, 0, none⟩) 8 c) ∧ g < w'.heap.size ∧ (∀ j, j < 8 → w'.cell? ⟨g, j, none⟩ = some (.int .u32 ((R8.plus r (rounds r (wf (bs s)) K 64)).nth j))) ∧ Below w.heap.size w w' := by
  obtain ⟨i0, hi, hz0, hz1, hz2⟩ := info_three info_u32
  have HC8 := hide ch8; have HC64 := hide ck64
  have mk := make64 w
  have HS := hide hs
  have hs' : (s.length : Int) = 64 := by omega
  clear ch8 ck64 hs
  obtain ⟨b, hb⟩ : ∃ b, bs s = b := ⟨_, rfl⟩
  have HBS := hide hb
  rw [hb]
  clear hb
  go_enter Tryz.func52, Tryz.ntmps52
  go_wp2_with fail
  clear mk
  go_loopw [8] (fun i wr => ∃ k : Nat, k ≤ 64 ∧ i = .int .i64 k ∧ Hid (BlIn b k w wr)) (fun i _ => 64 - (intOf i).toNat)
  case atStart => exact ⟨0, by omega, rfl, hide ⟨heap_alloc_new w _, (Below.refl _ w).alloc (Nat.le_refl _) _⟩⟩
  case round =>
    obtain ⟨k, hk, rfl, HI⟩ := hrel
    by_cases hlt : k < 64
    · have b1 : (k : Int) < 64 := by omega
      obtain ⟨old, hold⟩ : ∃ old, (schTo b k)[k]? = some old := ⟨_, Array.getElem?_eq_getElem (by rw [schTo_size]; omega)⟩
      have d0 := (row_cell HI.out.row k).trans hold
      have d1 := row_free HI.out.row k
      clear hold
      by_cases h16 : k < 16
      · have b2 : (k : Int) < 16 := by omega
        obtain ⟨m0, hm0⟩ : ∃ m, 4 * k = m := ⟨_, rfl⟩
        obtain ⟨m1, hm1⟩ : ∃ m, m0 + 1 = m := ⟨_, rfl⟩
        obtain ⟨m2, hm2⟩ : ∃ m, m0 + 2 = m := ⟨_, rfl⟩
        obtain ⟨m3, hm3⟩ : ∃ m, m0 + 3 = m := ⟨_, rfl⟩
        have z0 : 4 * (k : Int) = (m0 : Int) := by omega
        have z1 : (m0 : Int) + 1 = (m1 : Int) := by omega
        have z2 : (m0 : Int) + 2 = (m2 : Int) := by omega
        have z3 : (m0 : Int) + 3 = (m3 : Int) := by omega
        have y0 : IntKind.i64.wrap (m0 : Int) = (m0 : Int) := wrap_small m0 (by omega)
        have y1 : IntKind.i64.wrap (m1 : Int) = (m1 : Int) := wrap_small m1 (by omega)
        have y2 : IntKind.i64.wrap (m2 : Int) = (m2 : Int) := wrap_small m2 (by omega)
        have y3 : IntKind.i64.wrap (m3 : Int) = (m3 : Int) := wrap_small m3 (by omega)
        have l0 : (m0 : Int) < 64 := by omega
        have l1 : (m1 : Int) < 64 := by omega
        have l2 : (m2 : Int) < 64 := by omega
        have l3 : (m3 : Int) < 64 := by omega
        have n0 : m0 < s.length := by have := HS.out; omega
        have n1 : m1 < s.length := by have := HS.out; omega
        have n2 : m2 < s.length := by have := HS.out; omega
        have n3 : m3 < s.length := by have := HS.out; omega
        obtain ⟨c0, e0, f0⟩ := byte_at m0 n0
        obtain ⟨c1, e1, f1⟩ := byte_at m1 n1
        obtain ⟨c2, e2, f2⟩ := byte_at m2 n2
        obtain ⟨c3, e3, f3⟩ := byte_at m3 n3
        have hw := wf_low (b := b) h16
        rw [word4, hm0, hm1, hm2, hm3, ← HBS.out, f0, f1, f2, f3, HBS.out] at hw
        have HL := hide hw
        clear hw hm0 hm1 hm2 hm3 f0 f1 f2 f3
        go_wp2_with fail
        go_region
        all_goals go_wp2_with fail
        all_goals exact ⟨⟨k + 1, by omega, by go_num, hide (HI.out.next (by rw [HL.out])).drew⟩, by simp [intOf]; omega⟩
      · have b2 : ¬ (k : Int) < 16 := by omega
        obtain ⟨m2, hm2⟩ : ∃ m, k - 2 = m := ⟨_, rfl⟩
        have z2 : (k : Int) - 2 = (m2 : Int) := by omega
        have l2 : (m2 : Int) < 64 := by omega
        have y2 : IntKind.i64.wrap (m2 : Int) = (m2 : Int) := wrap_small m2 (by omega)
        have e2 := (row_cell HI.out.row m2).trans (schTo_get b m2 (by omega) k (by omega))
        obtain ⟨m7, hm7⟩ : ∃ m, k - 7 = m := ⟨_, rfl⟩
        have z7 : (k : Int) - 7 = (m7 : Int) := by omega
        have l7 : (m7 : Int) < 64 := by omega
        have y7 : IntKind.i64.wrap (m7 : Int) = (m7 : Int) := wrap_small m7 (by omega)
        have e7 := (row_cell HI.out.row m7).trans (schTo_get b m7 (by omega) k (by omega))
        obtain ⟨m15, hm15⟩ : ∃ m, k - 15 = m := ⟨_, rfl⟩
        have z15 : (k : Int) - 15 = (m15 : Int) := by omega
        have l15 : (m15 : Int) < 64 := by omega
        have y15 : IntKind.i64.wrap (m15 : Int) = (m15 : Int) := wrap_small m15 (by omega)
        have e15 := (row_cell HI.out.row m15).trans (schTo_get b m15 (by omega) k (by omega))
        obtain ⟨m16, hm16⟩ : ∃ m, k - 16 = m := ⟨_, rfl⟩
        have z16 : (k : Int) - 16 = (m16 : Int) := by omega
        have l16 : (m16 : Int) < 64 := by omega
        have y16 : IntKind.i64.wrap (m16 : Int) = (m16 : Int) := wrap_small m16 (by omega)
        have e16 := (row_cell HI.out.row m16).trans (schTo_get b m16 (by omega) k (by omega))
        have hw := wf_high2 (b := b) h16
        rw [hm2, hm7, hm15, hm16] at hw
        have HL := hide hw
        have n2 : ¬ (m2 = k) := by omega
        have n7 : ¬ (m7 = k) := by omega
        have n15 : ¬ (m15 = k) := by omega
        have n16 : ¬ (m16 = k) := by omega
        clear hw hm2 hm7 hm15 hm16
        go_wp2_with fail
        go_region_held3 (fun w' => w'.cell? ⟨w.heap.size, m7, none⟩ = some (.int .u32 (wf b m7)) ∧ w'.cell? ⟨w.heap.size, m16, none⟩ = some (.int .u32 (wf b m16)))
          (first | assumption | simp [go_sem, *])
          (first
            | (go_at_call 75; refine (rturn_q _ _ (by decide) (by decide) _).mono ?_; rintro e w' ⟨rfl, m, rfl⟩))
        all_goals go_wp2_with fail
        all_goals exact ⟨⟨k + 1, by omega, by go_num, hide ((HI.out.drewN _).next (by rw [HL.out]; exact wrap_four2 _ _ _ _))⟩, by simp [intOf]; omega⟩
    · obtain rfl : k = 64 := by omega
      have hsz := HI.out.bel.size
      have hwl := lt_of_block HI.out.row
      have N8 : Hid (∀ j, j < 8 → wr.cell? ⟨gh, j, none⟩ = some (.int .u32 (r.nth j))) := hide fun j hj => (HI.out.bel.cell (p := ⟨gh, j, none⟩) hgh).trans (HC8.out j hj)
      go_wp2_with (first
        | (at_builtin; refine wpList_append_own _ rfl _ _ 76 rfl (w.heap.size + 1) 110 i0 (.int .u32 0) 1 4 Tryz.underlying76 hi hz0 hz1 hz2 rfl (by decide) _ _ _ rfl (World.ownsRow_made wr #[] 0 (by omega) (by decide) rfl) ⟨gh, 0, none⟩ 8 ch r.vals.toList rfl rfl (news_at fun j hj => (Below.cell ((Below.refl _ wr).alloc (Nat.le_refl _) _) (p := ⟨gh, j, none⟩) (by show gh < wr.heap.size; omega)).trans (N8.out j hj)) (vals_one r) (by unfold maxLen; omega) (by omega) (by simp; omega) ?_; intro v' w3 hown' hgrow3 hnil3))
      have HV : Hid (V2In b w v' r w3) := hide (by
        have hg : (wr.alloc (.cells #[] 110)).heap[w.heap.size]? = some (.cells (schTo b 64) 110 (0, 0)) := (Below.heap_alloc _ _ _ hwl).trans HI.out.row
        refine ⟨by simpa using hown', ?_, (HI.out.bel.alloc hsz _).grown hgrow3 (by simp; omega) (fun q hq => by have hq' : some wr.heap.size = some q := hq; cases hq'; exact hsz)⟩
        exact (hgrow3.block w.heap.size (by simp; omega) (fun e => by have e' : some w.heap.size = some wr.heap.size := e; have := Option.some.inj e'; omega)).trans hg)
      clear hown' hgrow3 hnil3 N8 HI hwl hsz
      go_loopw [11, 12] (fun v i wr => ∃ (k : Nat) (rk : R8), k ≤ 64 ∧ i = .int .i64 k ∧ Hid (rk = rounds r (wf b) K k) ∧ Hid (V2In b w v rk wr)) (fun _ i _ => 64 - (intOf i).toNat)
      case atStart => exact ⟨0, r, by omega, rfl, hide rfl, HV⟩
      case round =>
        clear HV
        obtain ⟨k, rk, hk2, rfl, HR, HV⟩ := hrel
        obtain ⟨g, c, rfl⟩ := own_form HV.out.own (by omega)
        have hgl := (HV.out.own.lt g rfl)
        by_cases hlt2 : k < 64
        · have b64 : (k : Int) < 64 := by omega
          have v0 := HV.out.cells 0 (by omega)
          have v1 := HV.out.cells 1 (by omega)
          have v2 := HV.out.cells 2 (by omega)
          have v3 := HV.out.cells 3 (by omega)
          have v4 := HV.out.cells 4 (by omega)
          have v5 := HV.out.cells 5 (by omega)
          have v6 := HV.out.cells 6 (by omega)
          have v7 := HV.out.cells 7 (by omega)
          have xw := (row_cell HV.out.row k).trans (schTo_get b k hlt2 64 (by omega))
          have xk := (HV.out.bel.cell (p := ⟨gk, k, none⟩) hgk).trans (HC64.out k hlt2)
          have HR2 := hide (show rounds r (wf b) K (k + 1) = rk.next (K k) (wf b k) by rw [rounds, ← HR.out])
          clear HR
          go_wp2_with fail
          go_quiet (first | (go_at_call 75; refine Calls.quiet_of (rturn_q _ _ (by decide) (by decide) _)))
          go_wp2_with fail
          obtain ⟨wq, hwq⟩ : ∃ wq, wr.drewN nq = wq := ⟨_, rfl⟩
          have Hwq : Hid (V2In b w (.slice (some ⟨g, 0, none⟩) 8 c) rk wq) := hide (by rw [← hwq]; exact HV.out.drewN nq)
          rw [hwq]
          clear hwq HV v0 v1 v2 v3 v4 v5 v6 v7 xw xk
          have HV := Hwq
          have v1 := HV.out.cells 1 (by omega)
          have v2 := HV.out.cells 2 (by omega)
          have v3 := HV.out.cells 3 (by omega)
          have v5 := HV.out.cells 5 (by omega)
          have v6 := HV.out.cells 6 (by omega)
          clear Hwq
          go_quiet (first | (go_at_call 75; refine Calls.quiet_of (rturn_q _ _ (by decide) (by decide) _)))
          go_wp2_with fail
          obtain ⟨wp, hwp⟩ : ∃ wp, wq.drewN nq = wp := ⟨_, rfl⟩
          have Hwp : Hid (V2In b w (.slice (some ⟨g, 0, none⟩) 8 c) rk wp) := hide (by rw [← hwp]; exact HV.out.drewN nq)
          rw [hwp]
          clear hwp HV v1 v2 v3 v5 v6
          have HV := Hwp
          have v1 := HV.out.cells 1 (by omega)
          have v2 := HV.out.cells 2 (by omega)
          have v3 := HV.out.cells 3 (by omega)
          have v5 := HV.out.cells 5 (by omega)
          have v6 := HV.out.cells 6 (by omega)
          clear Hwp
          go_region
          all_goals go_wp2_with fail
          all_goals first
            | exact ⟨⟨k + 1, rk.next (K k) (wf b k), by omega, by go_num, hide HR2.out.symm, hide (HV.out.build _ (next_vals rk (K k) (wf b k))).drew⟩, by simp [intOf]; omega⟩
            | exact ⟨⟨k + 1, rk.next (K k) (wf b k), by omega, by go_num, hide HR2.out.symm, hide (HV.out.drew.build _ (next_vals rk (K k) (wf b k)))⟩, by simp [intOf]; omega⟩
        · obtain rfl : k = 64 := by omega
          obtain ⟨g2, cap, cur, hv2, hg2, hgg, hcap, -, hcs, htk⟩ := (HV.out.own.2).resolve_left (fun h => by simp at h)
          cases hv2
          have hcur : ∀ j, j < 8 → cur[j]? = some (.int .u32 (rk.nth j)) := fun j hj => by
            have := HV.out.cells j hj
            rwa [row_cell hgg] at this
          have HC := hide hcur; have HG := hide hgg
          clear hcur hgg htk hcs
          go_wp2_with fail
          go_loopw [17] (fun i w5 => ∃ (k : Nat) (cur : Array Value), k ≤ 8 ∧ i = .int .i64 k ∧ Hid (w5.heap[g]? = some (.cells cur 110 (0, 0))) ∧ Hid (∀ j, j < 8 → cur[j]? = some (.int .u32 (if j < k then (R8.plus r rk).nth j else rk.nth j))) ∧ Hid (Below w.heap.size w w5)) (fun i _ => 8 - (intOf i).toNat)
          case atStart => exact ⟨0, cur, by omega, rfl, HG, hide (fun j hj => by simpa using HC.out j hj), hide HV.out.bel⟩
          case round =>
            obtain ⟨k, cur, hk3, rfl, HG, HC, HB⟩ := hrel
            by_cases hlt3 : k < 8
            · have b8 : (k : Int) < 8 := by omega
              have hck := HC.out k hlt3
              rw [if_neg (Nat.lt_irrefl _)] at hck
              have x1 := (row_cell HG.out k).trans hck
              have x2 := row_free HG.out k
              have x3 := (HB.out.cell (p := ⟨gh, k, none⟩) hgh).trans (HC8.out k hlt3)
              have hne : ¬ gh = g := by omega
              have HP := hide (plus_nth r rk k)
              have hks : k < cur.size := (Array.getElem?_eq_some_iff.1 hck).1
              clear hck
              go_wp2_with fail
              go_region
              all_goals go_wp2_with fail
              all_goals refine ⟨⟨k + 1, cur.setIfInBounds k (.int .u32 ((rk.nth k + r.nth k) % 4294967296)), by omega, by go_num, hide (heap_setCell_same _ g k _ _ _ HG.out), hide (fun j hj => ?_), hide ((HB.out.setCell (p := ⟨g, k, none⟩) (by show w.heap.size ≤ g; omega) _).drew)⟩, by simp [intOf]; omega⟩
              all_goals
                rw [Array.getElem?_setIfInBounds]
                by_cases e : k = j
                · subst e
                  rw [if_pos rfl, if_pos hks, if_pos (by omega), HP.out, Int.add_comm]
                · rw [if_neg e, HC.out j hj]
                  by_cases e2 : j < k
                  · rw [if_pos e2, if_pos (by omega)]
                  · rw [if_neg e2, if_neg (by omega)]
            · obtain rfl : k = 8 := by omega
              have hgz := lt_of_block HG.out
              go_wp2_with fail
              go_ret
              refine ⟨g, c, rfl, hgz, fun j hj => ?_, HB.out⟩
              rw [row_cell HG.out, HC.out j hj, if_pos hj, HR.out]
end Go.Proofs.YtgdmgmklncmanaaGreatDoor
