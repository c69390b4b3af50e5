/- Of Ins: InsW2. -/
import Derived.Test.YtgdmgmklncmanaaGreatDoorIns13
import Derived.Deep.RegionHeld3
/- The walk over what looks into an archive. -/
namespace Go.Proofs.YtgdmgmklncmanaaGreatDoor
open Go.RowKit
open Arc (St Cmd S)

/-- The answer where there is none. -/
def noInfo : Array Value := #[.string ⟨#[]⟩, .string ⟨#[]⟩, .int .i64 0, .int .i64 0, .int .i64 0, .int .i64 0, .int .i64 0, .int .i64 0, .slice none 0 0]
theorem nine_all {w : World} {b : Nat} {t : TypeId} {a0 a1 a2 a3 a4 a5 a6 a7 a8 : Value} (h : w.heap[b]? = some (.cells #[a0, a1, a2, a3, a4, a5, a6, a7, a8] t (0, 0))) :
    w.cell? ⟨b, 0, none⟩ = some a0 ∧ w.cell? ⟨b, 1, none⟩ = some a1 ∧ w.cell? ⟨b, 2, none⟩ = some a2 ∧ w.cell? ⟨b, 3, none⟩ = some a3 ∧ w.cell? ⟨b, 4, none⟩ = some a4 ∧ w.cell? ⟨b, 5, none⟩ = some a5 ∧ w.cell? ⟨b, 6, none⟩ = some a6 ∧ w.cell? ⟨b, 7, none⟩ = some a7 ∧ w.cell? ⟨b, 8, none⟩ = some a8
    ∧ w.frozen? ⟨b, 0, none⟩ = false ∧ w.frozen? ⟨b, 1, none⟩ = false ∧ w.frozen? ⟨b, 2, none⟩ = false ∧ w.frozen? ⟨b, 3, none⟩ = false ∧ w.frozen? ⟨b, 4, none⟩ = false ∧ w.frozen? ⟨b, 5, none⟩ = false ∧ w.frozen? ⟨b, 6, none⟩ = false ∧ w.frozen? ⟨b, 7, none⟩ = false ∧ w.frozen? ⟨b, 8, none⟩ = false :=
  ⟨(row_cell h 0).trans rfl, (row_cell h 1).trans rfl, (row_cell h 2).trans rfl, (row_cell h 3).trans rfl, (row_cell h 4).trans rfl, (row_cell h 5).trans rfl, (row_cell h 6).trans rfl, (row_cell h 7).trans rfl, (row_cell h 8).trans rfl, row_free h 0, row_free h 1, row_free h 2, row_free h 3, row_free h 4, row_free h 5, row_free h 6, row_free h 7, row_free h 8⟩
theorem nine_put {w0 wr : World} {b : Nat} {t : TypeId} {a0 a1 a2 a3 a4 a5 a6 a7 a8 : Value} (n0 n1 n2 n3 n4 n5 n6 n7 n8 : Value) (h : wr.heap[b]? = some (.cells #[a0, a1, a2, a3, a4, a5, a6, a7, a8] t (0, 0))) (hb : Below w0.heap.size w0 wr) (hlt : w0.heap.size ≤ b) :
    RowIs w0 wr b t #[n0, n1, n2, n3, n4, n5, n6, n7, n8] (((((((((wr.setCell ⟨b, 0, none⟩ n0).setCell ⟨b, 1, none⟩ n1).setCell ⟨b, 2, none⟩ n2).setCell ⟨b, 3, none⟩ n3).setCell ⟨b, 4, none⟩ n4).setCell ⟨b, 5, none⟩ n5).setCell ⟨b, 6, none⟩ n6).setCell ⟨b, 7, none⟩ n7).setCell ⟨b, 8, none⟩ n8) := by
  have g : RowIs w0 wr b t _ wr := ⟨h, hb, fun _ _ => rfl, rfl⟩
  have g8 := ((((((((g.set hlt 0 n0).set hlt 1 n1).set hlt 2 n2).set hlt 3 n3).set hlt 4 n4).set hlt 5 n5).set hlt 6 n6).set hlt 7 n7).set hlt 8 n8
  have e : (((((((((#[a0, a1, a2, a3, a4, a5, a6, a7, a8] : Array Value).setIfInBounds 0 n0).setIfInBounds 1 n1).setIfInBounds 2 n2).setIfInBounds 3 n3).setIfInBounds 4 n4).setIfInBounds 5 n5).setIfInBounds 6 n6).setIfInBounds 7 n7).setIfInBounds 8 n8 = #[n0, n1, n2, n3, n4, n5, n6, n7, n8] := by simp
  rw [e] at g8
  exact g8

set_option maxRecDepth 100000 in
set_option maxHeartbeats 400000 in
theorem inspect_bad (x : S) (w : World) (hp : ∀ w1, Below w.heap.size w w1 → w1.heap.size = w.heap.size + 1 → Calls Tryz.prog 18 #[.string ⟨x.toArray⟩] w1 fun e w' => e = .returned (.tuple #[.agg #[.string ⟨#[]⟩, .string ⟨#[]⟩, .slice none 0 0, .slice none 0 0, .slice none 0 0, .slice none 0 0, .slice none 0 0, .slice none 0 0], .bool false]) ∧ Below w1.heap.size w1 w') :
    Calls Tryz.prog 9 #[.string ⟨x.toArray⟩] w fun e w' => e = .returned (.tuple #[.agg noInfo, .int .i64 3]) ∧ Below w.heap.size w w' := by
  have H := hide hp; clear hp
  go_enter Tryz.func9, Tryz.ntmps9
  go_wp2_with (go_at_call 18; refine (H.out _ ((Below.refl _ w).alloc (Nat.le_refl _) _) (by simp)).mono ?_; rintro e w1 ⟨rfl, hb1⟩; have hB := (hb1.block w.heap.size (by simp)).trans (heap_alloc_new w _); obtain ⟨u0, u1, u2, u3, u4, u5, u6, u7, u8, f0, f1, f2, f3, f4, f5, f6, f7, f8⟩ := nine_all hB; have hl : w.heap.size < w1.heap.size := (Array.getElem?_eq_some_iff.1 hB).1; have HB := hide hB; have HB1 := hide hb1; clear hB hb1)
  have hbw : Below w.heap.size w w1 := ((Below.refl _ w).alloc (Nat.le_refl _) _).trans (HB1.out.mono (by simp))
  have R := nine_put (w0 := w) (.string ⟨#[]⟩) (.string ⟨#[]⟩) (.int .i64 0) (.int .i64 0) (.int .i64 0) (.int .i64 0) (.int .i64 0) (.int .i64 0) (.slice none 0 0) HB.out hbw (Nat.le_refl _)
  have hrow := (Below.heap_alloc _ (.cells #[.string ⟨#[]⟩, .string ⟨#[]⟩, .slice none 0 0, .slice none 0 0, .slice none 0 0, .slice none 0 0, .slice none 0 0, .slice none 0 0] 66) _ (by rw [R.siz]; exact hl)).trans R.row
  obtain ⟨v0, v1, v2, v3, v4, v5, v6, v7, v8, -⟩ := nine_all hrow
  exact bodyPost_ret (v := .tuple #[.agg #[.string ⟨#[]⟩, .string ⟨#[]⟩, .int .i64 0, .int .i64 0, .int .i64 0, .int .i64 0, .int .i64 0, .int .i64 0, .slice none 0 0], .int .i64 3]) (by simp [results, Tryz.results9, go_sem, v0, v1, v2, v3, v4, v5, v6, v7, v8]) rfl
    ⟨rfl, R.bel.alloc (by rw [R.siz]; omega) _⟩

/-- What stands while the answer is gathered: the archive's eight cells; its files. -/
structure InQ (w : World) (A : Nat) (F : List (S × S)) (v : Value) (w' : World) : Prop where
  own : w'.ownsRow (w.heap.size + 1) 102 2 v F.length (F.flatMap pairV)
  bel : Below w.heap.size w w'
  siz : A < w'.heap.size
def InS (w : World) (A : Nat) (F : List (S × S)) (nm ve : S) (a0 a1 a2 a3 a4 a5 : Option Addr) (m0 m1 m2 m3 m4 m5 c0 c1 c2 c3 c4 c5 : Nat) (w' : World) : Prop :=
  InQ w A F (.slice a3 m3 c3) w' ∧ w'.cell? ⟨A, 0, none⟩ = some (.string ⟨nm.toArray⟩) ∧ w'.cell? ⟨A, 1, none⟩ = some (.string ⟨ve.toArray⟩) ∧ w'.cell? ⟨A, 2, none⟩ = some (.slice a0 m0 c0) ∧ w'.cell? ⟨A, 3, none⟩ = some (.slice a1 m1 c1) ∧ w'.cell? ⟨A, 4, none⟩ = some (.slice a2 m2 c2) ∧ w'.cell? ⟨A, 5, none⟩ = some (.slice a3 m3 c3) ∧ w'.cell? ⟨A, 6, none⟩ = some (.slice a4 m4 c4) ∧ w'.cell? ⟨A, 7, none⟩ = some (.slice a5 m5 c5)
theorem InS.start {w w' : World} {A : Nat} {F : List (S × S)} {nm ve : S} {a0 a1 a2 a3 a4 a5 : Option Addr} {m0 m1 m2 m3 m4 m5 c0 c1 c2 c3 c4 c5 : Nat} {t : TypeId} (h : w'.heap[A]? = some (.cells #[.string ⟨nm.toArray⟩, .string ⟨ve.toArray⟩, .slice a0 m0 c0, .slice a1 m1 c1, .slice a2 m2 c2, .slice a3 m3 c3, .slice a4 m4 c4, .slice a5 m5 c5] t (0, 0)))
    (q : InQ w A F (.slice a3 m3 c3) w') : InS w A F nm ve a0 a1 a2 a3 a4 a5 m0 m1 m2 m3 m4 m5 c0 c1 c2 c3 c4 c5 w' := by
  obtain ⟨u0, u1, u2, u3, u4, u5, u6, u7, -⟩ := eight_any h
  exact ⟨q, u0, u1, u2, u3, u4, u5, u6, u7⟩
theorem InS.on {w w' w2 : World} {A : Nat} {F : List (S × S)} {nm ve : S} {a0 a1 a2 a3 a4 a5 : Option Addr} {m0 m1 m2 m3 m4 m5 c0 c1 c2 c3 c4 c5 : Nat} (h : InS w A F nm ve a0 a1 a2 a3 a4 a5 m0 m1 m2 m3 m4 m5 c0 c1 c2 c3 c4 c5 w') (hb : Below w'.heap.size w' w2) : InS w A F nm ve a0 a1 a2 a3 a4 a5 m0 m1 m2 m3 m4 m5 c0 c1 c2 c3 c4 c5 w2 := by
  obtain ⟨q, u0, u1, u2, u3, u4, u5, u6, u7⟩ := h
  have e : ∀ j, w2.cell? ⟨A, j, none⟩ = w'.cell? ⟨A, j, none⟩ := fun j => hb.cell (p := ⟨A, j, none⟩) q.siz
  exact ⟨⟨own_below q.own hb, q.bel.trans (hb.mono q.bel.size), Nat.lt_of_lt_of_le q.siz hb.size⟩, (e 0).trans u0, (e 1).trans u1, (e 2).trans u2, (e 3).trans u3, (e 4).trans u4, (e 5).trans u5, (e 6).trans u6, (e 7).trans u7⟩
theorem InS.drew {w w' : World} {A : Nat} {F : List (S × S)} {nm ve : S} {a0 a1 a2 a3 a4 a5 : Option Addr} {m0 m1 m2 m3 m4 m5 c0 c1 c2 c3 c4 c5 : Nat} (h : InS w A F nm ve a0 a1 a2 a3 a4 a5 m0 m1 m2 m3 m4 m5 c0 c1 c2 c3 c4 c5 w') : InS w A F nm ve a0 a1 a2 a3 a4 a5 m0 m1 m2 m3 m4 m5 c0 c1 c2 c3 c4 c5 w'.drew :=
  h.on ((Below.refl _ w').drew)
theorem own_le {w : World} {B B' e size n : Nat} {v : Value} {xs : List Value} (h : w.ownsRow B' e size v n xs) (hB : B ≤ B') : w.ownsRow B e size v n xs := by
  refine ⟨h.1, ?_⟩
  rcases h.2 with hn | ⟨g, cap, cur, hv, hg, rest⟩
  · exact .inl hn
  · exact .inr ⟨g, cap, cur, hv, by omega, rest⟩
theorem InS.far {w w' : World} {A : Nat} {F : List (S × S)} {nm ve : S} {a0 a1 a2 a3 a4 a5 : Option Addr} {m0 m1 m2 m3 m4 m5 c0 c1 c2 c3 c4 c5 : Nat} (h : InS w A F nm ve a0 a1 a2 a3 a4 a5 m0 m1 m2 m3 m4 m5 c0 c1 c2 c3 c4 c5 w') (hA : w.heap.size < A) (j : Nat) (u : Value) : InS w A F nm ve a0 a1 a2 a3 a4 a5 m0 m1 m2 m3 m4 m5 c0 c1 c2 c3 c4 c5 (w'.setCell ⟨w.heap.size, j, none⟩ u) := by
  obtain ⟨q, u0, u1, u2, u3, u4, u5, u6, u7⟩ := h
  have e : ∀ k, (w'.setCell ⟨w.heap.size, j, none⟩ u).cell? ⟨A, k, none⟩ = w'.cell? ⟨A, k, none⟩ := fun k => World.cell?_setCell_far _ _ _ _ (by show w.heap.size ≠ A; omega)
  refine ⟨⟨?_, q.bel.setCell (p := ⟨w.heap.size, j, none⟩) (Nat.le_refl _) u, by simpa using q.siz⟩, (e 0).trans u0, (e 1).trans u1, (e 2).trans u2, (e 3).trans u3, (e 4).trans u4, (e 5).trans u5, (e 6).trans u6, (e 7).trans u7⟩
  refine ⟨q.own.1, ?_⟩
  rcases q.own.2 with hn | ⟨g, cap, cur, hv, hg, hgg, rest⟩
  · exact .inl hn
  · exact .inr ⟨g, cap, cur, hv, hg, by rw [Below.heap_setCell _ _ _ _ (by show g ≠ w.heap.size; omega)]; exact hgg, rest⟩
theorem InS.far9 {w w' : World} {A : Nat} {F : List (S × S)} {nm ve : S} {a0 a1 a2 a3 a4 a5 : Option Addr} {m0 m1 m2 m3 m4 m5 c0 c1 c2 c3 c4 c5 : Nat} (h : InS w A F nm ve a0 a1 a2 a3 a4 a5 m0 m1 m2 m3 m4 m5 c0 c1 c2 c3 c4 c5 w') (hA : w.heap.size < A) (n0 n1 n2 n3 n4 n5 n6 n7 n8 : Value) : InS w A F nm ve a0 a1 a2 a3 a4 a5 m0 m1 m2 m3 m4 m5 c0 c1 c2 c3 c4 c5
    (((((((((w'.setCell ⟨w.heap.size, 0, none⟩ n0).setCell ⟨w.heap.size, 1, none⟩ n1).setCell ⟨w.heap.size, 2, none⟩ n2).setCell ⟨w.heap.size, 3, none⟩ n3).setCell ⟨w.heap.size, 4, none⟩ n4).setCell ⟨w.heap.size, 5, none⟩ n5).setCell ⟨w.heap.size, 6, none⟩ n6).setCell ⟨w.heap.size, 7, none⟩ n7).setCell ⟨w.heap.size, 8, none⟩ n8) :=
  ((((((((h.far hA 0 n0).far hA 1 n1).far hA 2 n2).far hA 3 n3).far hA 4 n4).far hA 5 n5).far hA 6 n6).far hA 7 n7).far hA 8 n8
theorem bel_chain {w u wA wB wC : World} (h : Below w.heap.size w u) (hA : Below u.drew.heap.size u.drew wA) (hB : Below wA.heap.size wA wB) (hC : Below wB.heap.size wB wC) : Below w.heap.size w wC := by
  have h0 : w.heap.size ≤ u.drew.heap.size := h.size
  have h1 := hA.size
  have h2 := hB.size
  exact ((h.drew.trans (hA.mono h0)).trans (hB.mono (by omega))).trans (hC.mono (by omega))
theorem far_row {w wC w9 : World} {t e : TypeId} {cs : Array Value} {v : Value} {n : Nat} {xs : List Value} {size : Nat} (R : RowIs w wC w.heap.size t cs w9) (h : wC.ownsRow (w.heap.size + 1) e size v n xs) : w9.ownsRow w.heap.size e size v n xs := by
  refine ⟨h.1, ?_⟩
  rcases h.2 with hn | ⟨g, cap, cur, hv, hg, hgg, rest⟩
  · exact .inl hn
  · exact .inr ⟨g, cap, cur, hv, by omega, by rw [R.oth g (by omega)]; exact hgg, rest⟩
theorem z_chain {u wA wB wC : World} {b : Nat} {o : Obj} (hz : u.heap[b]? = some o) (hA : Below u.drew.heap.size u.drew wA) (hB : Below wA.heap.size wA wB) (hC : Below wB.heap.size wB wC) : wC.heap[b]? = some o := by
  have h0 : b < u.drew.heap.size := (Array.getElem?_eq_some_iff.1 hz).1
  have h1 := hA.size
  have h2 := hB.size
  rw [hC.block b (by omega), hB.block b (by omega), hA.block b h0]
  exact hz
theorem InS.owns {w w' : World} {A : Nat} {F : List (S × S)} {nm ve : S} {a0 a1 a2 a3 a4 a5 : Option Addr} {m0 m1 m2 m3 m4 m5 c0 c1 c2 c3 c4 c5 : Nat} (h : InS w A F nm ve a0 a1 a2 a3 a4 a5 m0 m1 m2 m3 m4 m5 c0 c1 c2 c3 c4 c5 w') : w'.ownsRow (w.heap.size + 1) 102 2 (.slice a3 m3 c3) F.length (F.flatMap pairV) := h.1.own
theorem InS.bel {w w' : World} {A : Nat} {F : List (S × S)} {nm ve : S} {a0 a1 a2 a3 a4 a5 : Option Addr} {m0 m1 m2 m3 m4 m5 c0 c1 c2 c3 c4 c5 : Nat} (h : InS w A F nm ve a0 a1 a2 a3 a4 a5 m0 m1 m2 m3 m4 m5 c0 c1 c2 c3 c4 c5 w') : Below w.heap.size w w' := h.1.bel

set_option maxRecDepth 100000 in
set_option maxHeartbeats 200000 in
theorem inspect_ok (x nm ve : S) (st : St) (w : World) (hnl : nm.length ≤ 2000) (hvl : ve.length ≤ 2000) (hF : st.files.length ≤ 30) (hl : ∀ p ∈ st.files, p.1.length ≤ 2000)
    (hp : ∀ w1, Below w.heap.size w w1 → w1.heap.size = w.heap.size + 1 → Calls Tryz.prog 18 #[.string ⟨x.toArray⟩] w1 fun e w' => ∃ sl : Fin 6 → Value, e = .returned (.tuple #[.agg #[strV nm, strV ve, sl 0, sl 1, sl 2, sl 3, sl 4, sl 5], .bool true]) ∧
      (∀ i, w'.ownsRow w1.heap.size (pty i) (psz i) (sl i) (prow st i).1 (prow st i).2) ∧ Below w1.heap.size w1 w') :
    Calls Tryz.prog 9 #[.string ⟨x.toArray⟩] w fun e w' => ∃ o, e = .returned (.tuple #[.agg #[.string ⟨nm.toArray⟩, .string ⟨ve.toArray⟩, .int .i64 st.needs.length, .int .i64 st.breaks.length, .int .i64 st.wakes.length, .int .i64 st.files.length, .int .i64 st.runs.length, .int .i64 st.wokens.length, o], .int .i64 0])
      ∧ w'.ownsRow w.heap.size 9 1 o st.files.length (pathV st.files st.files.length) ∧ Below w.heap.size w w' := by
  have H := hide hp; clear hp
  go_enter Tryz.func9, Tryz.ntmps9
  go_wp2_with fail
  refine (H.out _ ((Below.refl _ w).alloc (Nat.le_refl _) _) (by simp)).mono ?_
  rintro e w1 ⟨sl, rfl, hown, hb1⟩
  have hB := (hb1.block w.heap.size (by simp)).trans (heap_alloc_new w _)
  have hl1 : w.heap.size < w1.heap.size := (Array.getElem?_eq_some_iff.1 hB).1
  obtain ⟨a0, c0, h0⟩ := slice_form (hown 0)
  obtain ⟨a1, c1, h1⟩ := slice_form (hown 1)
  obtain ⟨a2, c2, h2⟩ := slice_form (hown 2)
  obtain ⟨a3, c3, h3⟩ := slice_form (hown 3)
  obtain ⟨a4, c4, h4⟩ := slice_form (hown 4)
  obtain ⟨a5, c5, h5⟩ := slice_form (hown 5)
  rw [h0, h1, h2, h3, h4, h5]
  have hof := hown 3
  rw [h3] at hof
  have hof' : w1.ownsRow (w.heap.size + 1) 102 2 (.slice a3 st.files.length c3) st.files.length (st.files.flatMap pairV) := own_le hof (by simp)
  have hbw : Below w.heap.size w w1 := ((Below.refl _ w).alloc (Nat.le_refl _) _).trans (hb1.mono (by simp))
  simp only [prow, strV]
  clear hown h0 h1 h2 h3 h4 h5 hof hb1
  have HB := hide hB
  have HW := hide hbw
  have HOF := hide hof'
  clear hB hbw hof'
  go_wp2_with fail
  have hsu : (w1.alloc (.cells #[.string ⟨nm.toArray⟩, .string ⟨ve.toArray⟩, .slice a0 st.needs.length c0, .slice a1 st.breaks.length c1, .slice a2 st.wakes.length c2, .slice a3 st.files.length c3, .slice a4 st.runs.length c4, .slice a5 st.wokens.length c5] 66)).heap.size = w1.heap.size + 1 := by simp
  have hIS : InS w w1.heap.size st.files nm ve a0 a1 a2 a3 a4 a5 st.needs.length st.breaks.length st.wakes.length st.files.length st.runs.length st.wokens.length c0 c1 c2 c3 c4 c5 (w1.alloc (.cells #[.string ⟨nm.toArray⟩, .string ⟨ve.toArray⟩, .slice a0 st.needs.length c0, .slice a1 st.breaks.length c1, .slice a2 st.wakes.length c2, .slice a3 st.files.length c3, .slice a4 st.runs.length c4, .slice a5 st.wokens.length c5] 66)) :=
    InS.start (heap_alloc_new w1 _) ⟨HOF.out.alloc _, HW.out.alloc (by omega) _, by rw [hsu]; omega⟩
  have hZ := (Below.heap_alloc w1 (.cells #[.string ⟨nm.toArray⟩, .string ⟨ve.toArray⟩, .slice a0 st.needs.length c0, .slice a1 st.breaks.length c1, .slice a2 st.wakes.length c2, .slice a3 st.files.length c3, .slice a4 st.runs.length c4, .slice a5 st.wokens.length c5] 66) w.heap.size hl1).trans HB.out
  obtain ⟨A, hA⟩ : ∃ A, w1.heap.size = A := ⟨_, rfl⟩
  generalize hu : w1.alloc (.cells #[.string ⟨nm.toArray⟩, .string ⟨ve.toArray⟩, .slice a0 st.needs.length c0, .slice a1 st.breaks.length c1, .slice a2 st.wakes.length c2, .slice a3 st.files.length c3, .slice a4 st.runs.length c4, .slice a5 st.wokens.length c5] 66) = u at *
  rw [hA] at hIS hl1 ⊢
  have HZ := hide hZ
  have HIS := hide hIS
  clear hu hA hZ hIS hsu HB HW HOF
  go_region_held3 (fun w' => InQ w A st.files (.slice a3 st.files.length c3) w' ∧ w'.cell? ⟨A, 0, none⟩ = some (.string ⟨nm.toArray⟩) ∧ w'.cell? ⟨A, 1, none⟩ = some (.string ⟨ve.toArray⟩) ∧ w'.cell? ⟨A, 2, none⟩ = some (.slice a0 st.needs.length c0) ∧ w'.cell? ⟨A, 3, none⟩ = some (.slice a1 st.breaks.length c1) ∧ w'.cell? ⟨A, 4, none⟩ = some (.slice a2 st.wakes.length c2) ∧ w'.cell? ⟨A, 5, none⟩ = some (.slice a3 st.files.length c3) ∧ w'.cell? ⟨A, 6, none⟩ = some (.slice a4 st.runs.length c4) ∧ w'.cell? ⟨A, 7, none⟩ = some (.slice a5 st.wokens.length c5))
    (first | (have hh : InS w A st.files nm ve a0 a1 a2 a3 a4 a5 st.needs.length st.breaks.length st.wakes.length st.files.length st.runs.length st.wokens.length c0 c1 c2 c3 c4 c5 wC := (by assumption); exact InS.far9 hh hl1 _ _ _ _ _ _ _ _ _) | exact InS.on (by assumption) hbC | exact InS.on (by assumption) hbB | exact InS.on (by assumption) hbA | exact InS.drew HIS.out)
    (first
      | (go_at_call_of 19 (Value.string ⟨nm.toArray⟩); refine (clone_any nm hnl _).mono ?_; rintro e w' ⟨rfl, hbA⟩)
      | (go_at_call_of 19 (Value.string ⟨ve.toArray⟩); refine (clone_any ve hvl _).mono ?_; rintro e w' ⟨rfl, hbB⟩)
      | (go_at_call 20; refine (paths_any st.files hF hl (w.heap.size + 1) (.slice a3 st.files.length c3) _ (InS.owns (by assumption))).mono ?_; rintro e wC ⟨o, rfl, hown, hbC⟩; have HZ2 := hide (z_chain HZ.out hbA hbB hbC); obtain ⟨oo, oc, rfl⟩ := slice_form hown; obtain ⟨z0, z1, z2, z3, z4, z5, z6, z7, z8, y0, y1, y2, y3, y4, y5, y6, y7, y8⟩ := nine_all HZ2.out))
  have hbC' := bel_chain HIS.out.bel hbA hbB hbC
  have R := nine_put (w0 := w) (.string ⟨nm.toArray⟩) (.string ⟨ve.toArray⟩) (.int .i64 st.needs.length) (.int .i64 st.breaks.length) (.int .i64 st.wakes.length) (.int .i64 st.files.length) (.int .i64 st.runs.length) (.int .i64 st.wokens.length) (.slice oo st.files.length oc) HZ2.out hbC' (Nat.le_refl _)
  obtain ⟨v0, v1, v2, v3, v4, v5, v6, v7, v8, -⟩ := nine_all R.row
  have ho := far_row R (own_le hown (by have s1 : u.heap.size ≤ _ := hbA.size; have s2 := hbB.size; have s0 := HIS.out.1.siz; omega))
  clear hown hbA hbB hbC z0 z1 z2 z3 z4 z5 z6 z7 z8 y0 y1 y2 y3 y4 y5 y6 y7 y8
  go_wp2_with fail
  exact bodyPost_ret (v := .tuple #[.agg #[.string ⟨nm.toArray⟩, .string ⟨ve.toArray⟩, .int .i64 st.needs.length, .int .i64 st.breaks.length, .int .i64 st.wakes.length, .int .i64 st.files.length, .int .i64 st.runs.length, .int .i64 st.wokens.length, .slice oo st.files.length oc], .int .i64 0]) (by simp [results, Tryz.results9, go_sem, v0, v1, v2, v3, v4, v5, v6, v7, v8]) rfl
    ⟨_, rfl, ho, R.bel⟩
end Go.Proofs.YtgdmgmklncmanaaGreatDoor
