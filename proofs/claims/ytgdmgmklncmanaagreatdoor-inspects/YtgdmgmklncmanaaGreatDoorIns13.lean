/- Of Ins: ParW6, InsW1. -/
import Derived.Test.YtgdmgmklncmanaaGreatDoorIns12
/- The walk over an archive that is taken apart. -/
namespace Go.Proofs.YtgdmgmklncmanaaGreatDoor
open Go.RowKit
open Arc (St Cmd S)

/-- What stands when the first lines are to be read: the place of the result, the lines, the parser. -/
structure PaIn (w : World) (x head contents : S) (w1 : World) : Prop where
  out : w1.heap[w.heap.size]? = some (.cells #[.string ⟨#[]⟩, .string ⟨#[]⟩, .slice none 0 0, .slice none 0 0, .slice none 0 0, .slice none 0 0, .slice none 0 0, .slice none 0 0] 66 (0, 0))
  lines : w1.heap[w.heap.size + 1]? = some (.cells ((sp 10 head).map strV).toArray 9 (0, 0))
  par : PIn (w.heap.size + 1 + 1) [] [] (.of contents) (fun _ => .slice none 0 0) w1
  bel : Below w.heap.size w w1
  siz : w1.heap.size = w.heap.size + 3

theorem PaIn.begin (w w1 : World) (x head contents : S) {o : Obj} (ho : o = .cells #[.string ⟨#[]⟩, .string ⟨#[]⟩, .slice none 0 0, .slice none 0 0, .slice none 0 0, .slice none 0 0, .slice none 0 0, .slice none 0 0] 66)
    (hb : Below (w.alloc o).heap.size (w.alloc o) w1) (hs : w1.heap.size = (w.alloc o).heap.size) :
    PaIn w x head contents ((w1.alloc (.cells ((sp 10 head).map strV).toArray 9)).alloc (.cells #[.string ⟨#[]⟩, .string ⟨#[]⟩, .slice none 0 0, .slice none 0 0, .slice none 0 0, .slice none 0 0, .slice none 0 0, .slice none 0 0, .string ⟨contents.toArray⟩] 100)) := by
  subst ho
  have e0 : ∀ (u : World) (q : Obj), (u.alloc q).heap.size = u.heap.size + 1 := fun u q => by simp
  rw [e0] at hs hb
  have hp := PIn.begin (w1.alloc (.cells ((sp 10 head).map strV).toArray 9)) contents
  rw [e0, hs] at hp
  refine ⟨?_, ?_, hp, ?_, by rw [e0, e0, hs]⟩
  · rw [Below.heap_alloc _ _ _ (by rw [e0]; omega), Below.heap_alloc _ _ _ (by omega), hb.block _ (by omega), heap_alloc_new]
  · rw [Below.heap_alloc _ _ _ (by rw [e0]; omega), ← hs, heap_alloc_new]
  · exact ((((Below.refl _ w).alloc (Nat.le_refl _) _).trans (hb.mono (by omega))).alloc (by omega) _).alloc (by rw [e0]; omega) _

theorem slice_form {w : World} {base size : Nat} {t : TypeId} {v : Value} {n : Nat} {xs : List Value} (h : w.ownsRow base t size v n xs) : ∃ ao c, v = .slice ao n c := by
  rcases h.2 with ⟨h1, rfl⟩ | ⟨g, cap, _, h1, _⟩
  · exact ⟨none, 0, h1⟩
  · exact ⟨_, cap, h1⟩
theorem pa_own {w w4 w5 : World} {nm ve : S} {st : St} {sl : Fin 6 → Value} {t : TypeId} {cs : Array Value} (h : PIn (w.heap.size + 1 + 1) nm ve st sl w4) (R : RowIs w w4 w.heap.size t cs w5) (i : Fin 6) :
    w5.ownsRow w.heap.size (pty i) (psz i) (sl i) (prow st i).1 (prow st i).2 := by
  have ho := h.own i
  refine ⟨ho.1, ?_⟩
  rcases ho.2 with hn | ⟨g, cap, cur, hv, hg, hgg, rest⟩
  · exact .inl hn
  · exact .inr ⟨g, cap, cur, hv, by omega, by rw [R.oth g (by omega)]; exact hgg, rest⟩

set_option maxRecDepth 100000 in
set_option maxHeartbeats 400000 in
theorem archive_ok (x head contents b d nm ve : S) (L : List S) (st : Nat → St) (mx : Int) (w : World) (hx : x.length ≤ 2000) (hcut : cutTwo x = some (head, contents)) (hhl : head.length ≤ 2000)
    (hlines : sp 10 head = [104, 97, 118, 101, 110, 32, 49] :: b :: d :: L) (hL : L.length ≤ 21) (hL1 : 1 ≤ L.length) (hll : ∀ y ∈ L, y.length ≤ 2000) (hnl : nm.length ≤ 2000) (hw9 : 9 ≤ w.heap.size)
    (hb1 : Lib.hasPrefix b [110, 97, 109, 101, 32] = true) (hb2 : Lib.trimPrefix b [110, 97, 109, 101, 32] = nm) (hd1 : Lib.hasPrefix d [118, 101, 114, 115, 105, 111, 110, 32] = true) (hd2 : Lib.trimPrefix d [118, 101, 114, 115, 105, 111, 110, 32] = ve)
    (hn : Wd.isName nm = true) (hv : Ver.fine ve = true) (hm : w.cell? ⟨0, 0, none⟩ = some (.int .i64 mx))
    (hst : st 0 = .of contents) (hkind : ∀ k, k < L.length → kof (L.getD k []) ≠ 0 ∧ lastK L k ≤ kof (L.getD k [])) (hlen : ∀ k, k < L.length → 2 ≤ (sp 32 (L.getD k [])).length)
    (hline : ∀ w1, Below w.heap.size w w1 → ∀ k, k < L.length → LineOk (w.heap.size + 1 + 1) nm ve st (L.getD k []) k w1) (hleft : (st L.length).left = []) :
    Calls Tryz.prog 18 #[.string ⟨x.toArray⟩] w fun e w' => ∃ sl : Fin 6 → Value, e = .returned (.tuple #[.agg #[strV nm, strV ve, sl 0, sl 1, sl 2, sl 3, sl 4, sl 5], .bool true]) ∧
      (∀ i, w'.ownsRow w.heap.size (pty i) (psz i) (sl i) (prow (st L.length) i).1 (prow (st L.length) i).2) ∧ Below w.heap.size w w' := by
  have gx : (x.length : Int) ≤ 2000 := by omega
  obtain ⟨n, hnn⟩ : ∃ n, (sp 10 head).length = n := ⟨_, rfl⟩
  have hn3 : n = L.length + 3 := by rw [← hnn, hlines]; simp
  have h3 : (3 : Int) ≤ (n : Int) := by omega
  have h24 : (n : Int) ≤ 24 := by omega
  have hn0 : ¬ n = 3 := by omega
  have HM := hide hm; have HCUT := hide hcut; have HLN := hide hlines; have HLEFT := hide hleft; have HLINE := hide hline; have HNN := hide hnn; have HST := hide hst; have HKIND := hide hkind; have HLEN := hide hlen; have HN3 := hide hn3
  clear hm hcut hlines hleft hline hnn hst hkind hlen hn3
  go_enter Tryz.func18, Tryz.ntmps18
  go_wp2_with (first
    | (go_at_call 27; refine (cut_any x head contents hx HCUT.out mx _ ?_).mono ?_; (exact (Below.cell ((Below.refl _ w).alloc (Nat.le_refl _) _) (p := ⟨0, 0, none⟩) (by show 0 < w.heap.size; omega)).trans HM.out); rintro e w1 ⟨rfl, hb1', hs1⟩; have HB1 := hide hb1'; have HS1 := hide hs1; clear hb1' hs1)
    | (go_at_call 41; refine (split_any 10 head hhl mx _ ?_).mono ?_; (exact (Below.cell (((Below.refl _ w).alloc (Nat.le_refl _) _).trans (HB1.out.mono (by simp))) (p := ⟨0, 0, none⟩) (by show 0 < w.heap.size; omega)).trans HM.out); rintro e w2 ⟨he, rfl⟩; rw [HNN.out] at he; subst he))
  have HPa := hide (PaIn.begin w w1 x head contents rfl HB1.out HS1.out)
  have e1 : w1.heap.size = w.heap.size + 1 := by rw [HS1.out]; simp
  rw [e1]
  clear HB1 HS1 e1
  generalize hu : (w1.alloc (.cells ((sp 10 head).map strV).toArray 9)).alloc (.cells #[.string ⟨#[]⟩, .string ⟨#[]⟩, .slice none 0 0, .slice none 0 0, .slice none 0 0, .slice none 0 0, .slice none 0 0, .slice none 0 0, .string ⟨contents.toArray⟩] 100) = u at *
  clear hu
  have hsu := HPa.out.siz
  have lc : ∀ k, k < L.length + 3 → u.cell? ⟨w.heap.size + 1, k, none⟩ = some (strV (([104, 97, 118, 101, 110, 32, 49] :: b :: d :: L).getD k [])) := by
    intro k hk
    rw [row_cell HPa.out.lines k, HLN.out]
    have : k < (([104, 97, 118, 101, 110, 32, 49] : S) :: b :: d :: L).length := by simp; omega
    simp only [List.getElem?_toArray, List.getElem?_map, List.getD, List.getElem?_eq_getElem this, Option.map, Option.getD]
  refine (head_ok (w.heap.size + 1 + 1) (w.heap.size + 1) n (.of contents) _ b d nm ve u HPa.out.par (by omega) (by omega) hnl (lc 0 (by omega)) (lc 1 (by omega)) (lc 2 (by omega)) hb1 hb2 hd1 hd2 hn hv).mono ?_
  rintro e w3 ⟨rfl, hp3, hb3⟩
  have HP3 := hide hp3; have HB3 := hide hb3; have HLC := hide lc
  clear hp3 hb3 lc hb1 hb2 hd1 hd2
  go_wp2_with fail
  rw [show n - 3 = L.length from by have := HN3.out; omega]
  have hbw : Below w.heap.size w w3 := HPa.out.bel.trans (HB3.out.mono (by omega))
  have HBW := hide hbw; clear hbw
  refine (body_ok (w.heap.size + 1 + 1) (w.heap.size + 1) 3 L.length nm ve st L mx _ w3 (by rw [HST.out]; exact HP3.out) (by omega) (by omega) hL hll ((HBW.out.cell (p := ⟨0, 0, none⟩) (by show 0 < w.heap.size; omega)).trans HM.out)
    (fun k hk => (HB3.out.cell (p := ⟨w.heap.size + 1, 3 + k, none⟩) (by show w.heap.size + 1 < w.heap.size + 1 + 1; omega)).trans ((HLC.out (3 + k) (by omega)).trans (by rw [show 3 + k = k + 1 + 1 + 1 from by omega]; rfl))) HKIND.out HLEN.out (HLINE.out w3 HBW.out)).mono ?_
  rintro e w4 ⟨rfl, sl4, hp4, hb4⟩
  have HP4 := hide hp4
  have HBW4 : Hid (Below w.heap.size w w4) := hide (HBW.out.trans (hb4.mono (by omega)))
  have ho4 := (hb4.block w.heap.size (by omega)).trans ((HB3.out.block w.heap.size (by omega)).trans HPa.out.out)
  have hp4c := hp4.blk
  rw [HLEFT.out] at hp4c
  obtain ⟨q0, q1, q2, q3, q4, q5, q6, q7, q8⟩ := nine_free hp4c
  obtain ⟨r0, r1, r2, r3, r4, r5, r6, r7, f0, f1, f2, f3, f4, f5, f6, f7⟩ := eight_any ho4
  have HO4 := hide ho4
  have q8' : w4.cell? ⟨w.heap.size + 1 + 1, 8, none⟩ = some (.string ⟨#[]⟩) := q8
  have q0' : w4.cell? ⟨w.heap.size + 1 + 1, 0, none⟩ = some (.string ⟨nm.toArray⟩) := q0
  have q1' : w4.cell? ⟨w.heap.size + 1 + 1, 1, none⟩ = some (.string ⟨ve.toArray⟩) := q1
  obtain ⟨a0, z0, h0⟩ := slice_form (hp4.own 0)
  obtain ⟨a1, z1, h1⟩ := slice_form (hp4.own 1)
  obtain ⟨a2, z2, h2⟩ := slice_form (hp4.own 2)
  obtain ⟨a3, z3, h3'⟩ := slice_form (hp4.own 3)
  obtain ⟨a4, z4, h4⟩ := slice_form (hp4.own 4)
  obtain ⟨a5, z5, h5⟩ := slice_form (hp4.own 5)
  generalize (prow (st L.length) 0).1 = m0 at h0
  generalize (prow (st L.length) 1).1 = m1 at h1
  generalize (prow (st L.length) 2).1 = m2 at h2
  generalize (prow (st L.length) 3).1 = m3 at h3'
  generalize (prow (st L.length) 4).1 = m4 at h4
  generalize (prow (st L.length) 5).1 = m5 at h5
  rw [h0] at q2
  rw [h1] at q3
  rw [h2] at q4
  rw [h3'] at q5
  rw [h4] at q6
  rw [h5] at q7
  have HE := hide (And.intro h0 (And.intro h1 (And.intro h2 (And.intro h3' (And.intro h4 h5)))))
  clear hp4 hb4 ho4 hp4c q8 q0 q1 h0 h1 h2 h3' h4 h5
  go_wp2_with fail
  have R := eight_put (w0 := w) (.string ⟨nm.toArray⟩) (.string ⟨ve.toArray⟩) (.slice a0 m0 z0) (.slice a1 m1 z1) (.slice a2 m2 z2) (.slice a3 m3 z3) (.slice a4 m4 z4) (.slice a5 m5 z5) HO4.out HBW4.out (Nat.le_refl _)
  obtain ⟨u0, u1, u2, u3, u4, u5, u6, u7, -⟩ := eight_any R.row
  refine bodyPost_ret (v := .tuple #[.agg #[.string ⟨nm.toArray⟩, .string ⟨ve.toArray⟩, .slice a0 m0 z0, .slice a1 m1 z1, .slice a2 m2 z2, .slice a3 m3 z3, .slice a4 m4 z4, .slice a5 m5 z5], .bool true]) (by simp [results, Tryz.results18, go_sem, u0, u1, u2, u3, u4, u5, u6, u7]) rfl
    ⟨sl4, ?_, fun i => pa_own HP4.out R i, R.bel⟩
  obtain ⟨h0, h1, h2, h3, h4, h5⟩ := HE.out
  rw [h0, h1, h2, h3, h4, h5]
  rfl

set_option maxRecDepth 100000 in
set_option maxHeartbeats 400000 in
theorem archive_left (x head contents b d nm ve : S) (L : List S) (st : Nat → St) (mx : Int) (w : World) (hx : x.length ≤ 2000) (hcut : cutTwo x = some (head, contents)) (hhl : head.length ≤ 2000)
    (hlines : sp 10 head = [104, 97, 118, 101, 110, 32, 49] :: b :: d :: L) (hL : L.length ≤ 21) (hL1 : 1 ≤ L.length) (hll : ∀ y ∈ L, y.length ≤ 2000) (hnl : nm.length ≤ 2000) (hw9 : 9 ≤ w.heap.size)
    (hb1 : Lib.hasPrefix b [110, 97, 109, 101, 32] = true) (hb2 : Lib.trimPrefix b [110, 97, 109, 101, 32] = nm) (hd1 : Lib.hasPrefix d [118, 101, 114, 115, 105, 111, 110, 32] = true) (hd2 : Lib.trimPrefix d [118, 101, 114, 115, 105, 111, 110, 32] = ve)
    (hn : Wd.isName nm = true) (hv : Ver.fine ve = true) (hm : w.cell? ⟨0, 0, none⟩ = some (.int .i64 mx))
    (hst : st 0 = .of contents) (hkind : ∀ k, k < L.length → kof (L.getD k []) ≠ 0 ∧ lastK L k ≤ kof (L.getD k [])) (hlen : ∀ k, k < L.length → 2 ≤ (sp 32 (L.getD k [])).length)
    (hline : ∀ w1, Below w.heap.size w w1 → ∀ k, k < L.length → LineOk (w.heap.size + 1 + 1) nm ve st (L.getD k []) k w1) (y : S) (hleft : (st L.length).left = y) (hy : (y == []) = false) :
    Calls Tryz.prog 18 #[.string ⟨x.toArray⟩] w fun e w' => e = .returned (.tuple #[.agg #[.string ⟨#[]⟩, .string ⟨#[]⟩, .slice none 0 0, .slice none 0 0, .slice none 0 0, .slice none 0 0, .slice none 0 0, .slice none 0 0], .bool false]) ∧ Below w.heap.size w w' := by
  have gx : (x.length : Int) ≤ 2000 := by omega
  obtain ⟨n, hnn⟩ : ∃ n, (sp 10 head).length = n := ⟨_, rfl⟩
  have hn3 : n = L.length + 3 := by rw [← hnn, hlines]; simp
  have h3 : (3 : Int) ≤ (n : Int) := by omega
  have h24 : (n : Int) ≤ 24 := by omega
  have hn0 : ¬ n = 3 := by omega
  have HM := hide hm; have HCUT := hide hcut; have HLN := hide hlines; have HLEFT := hide hleft; have HLINE := hide hline; have HNN := hide hnn; have HST := hide hst; have HKIND := hide hkind; have HLEN := hide hlen; have HN3 := hide hn3
  clear hm hcut hlines hleft hline hnn hst hkind hlen hn3
  go_enter Tryz.func18, Tryz.ntmps18
  go_wp2_with (first
    | (go_at_call 27; refine (cut_any x head contents hx HCUT.out mx _ ?_).mono ?_; (exact (Below.cell ((Below.refl _ w).alloc (Nat.le_refl _) _) (p := ⟨0, 0, none⟩) (by show 0 < w.heap.size; omega)).trans HM.out); rintro e w1 ⟨rfl, hb1', hs1⟩; have HB1 := hide hb1'; have HS1 := hide hs1; clear hb1' hs1)
    | (go_at_call 41; refine (split_any 10 head hhl mx _ ?_).mono ?_; (exact (Below.cell (((Below.refl _ w).alloc (Nat.le_refl _) _).trans (HB1.out.mono (by simp))) (p := ⟨0, 0, none⟩) (by show 0 < w.heap.size; omega)).trans HM.out); rintro e w2 ⟨he, rfl⟩; rw [HNN.out] at he; subst he))
  have HPa := hide (PaIn.begin w w1 x head contents rfl HB1.out HS1.out)
  have e1 : w1.heap.size = w.heap.size + 1 := by rw [HS1.out]; simp
  rw [e1]
  clear HB1 HS1 e1
  generalize hu : (w1.alloc (.cells ((sp 10 head).map strV).toArray 9)).alloc (.cells #[.string ⟨#[]⟩, .string ⟨#[]⟩, .slice none 0 0, .slice none 0 0, .slice none 0 0, .slice none 0 0, .slice none 0 0, .slice none 0 0, .string ⟨contents.toArray⟩] 100) = u at *
  clear hu
  have hsu := HPa.out.siz
  have lc : ∀ k, k < L.length + 3 → u.cell? ⟨w.heap.size + 1, k, none⟩ = some (strV (([104, 97, 118, 101, 110, 32, 49] :: b :: d :: L).getD k [])) := by
    intro k hk
    rw [row_cell HPa.out.lines k, HLN.out]
    have : k < (([104, 97, 118, 101, 110, 32, 49] : S) :: b :: d :: L).length := by simp; omega
    simp only [List.getElem?_toArray, List.getElem?_map, List.getD, List.getElem?_eq_getElem this, Option.map, Option.getD]
  refine (head_ok (w.heap.size + 1 + 1) (w.heap.size + 1) n (.of contents) _ b d nm ve u HPa.out.par (by omega) (by omega) hnl (lc 0 (by omega)) (lc 1 (by omega)) (lc 2 (by omega)) hb1 hb2 hd1 hd2 hn hv).mono ?_
  rintro e w3 ⟨rfl, hp3, hb3⟩
  have HP3 := hide hp3; have HB3 := hide hb3; have HLC := hide lc
  clear hp3 hb3 lc hb1 hb2 hd1 hd2
  go_wp2_with fail
  rw [show n - 3 = L.length from by have := HN3.out; omega]
  have hbw : Below w.heap.size w w3 := HPa.out.bel.trans (HB3.out.mono (by omega))
  have HBW := hide hbw; clear hbw
  refine (body_ok (w.heap.size + 1 + 1) (w.heap.size + 1) 3 L.length nm ve st L mx _ w3 (by rw [HST.out]; exact HP3.out) (by omega) (by omega) hL hll ((HBW.out.cell (p := ⟨0, 0, none⟩) (by show 0 < w.heap.size; omega)).trans HM.out)
    (fun k hk => (HB3.out.cell (p := ⟨w.heap.size + 1, 3 + k, none⟩) (by show w.heap.size + 1 < w.heap.size + 1 + 1; omega)).trans ((HLC.out (3 + k) (by omega)).trans (by rw [show 3 + k = k + 1 + 1 + 1 from by omega]; rfl))) HKIND.out HLEN.out (HLINE.out w3 HBW.out)).mono ?_
  rintro e w4 ⟨rfl, sl4, hp4, hb4⟩
  have HP4 := hide hp4
  have HBW4 : Hid (Below w.heap.size w w4) := hide (HBW.out.trans (hb4.mono (by omega)))
  have ho4 := (hb4.block w.heap.size (by omega)).trans ((HB3.out.block w.heap.size (by omega)).trans HPa.out.out)
  have hp4c := hp4.blk
  rw [HLEFT.out] at hp4c
  obtain ⟨q0, q1, q2, q3, q4, q5, q6, q7, q8⟩ := nine_free hp4c
  obtain ⟨r0, r1, r2, r3, r4, r5, r6, r7, f0, f1, f2, f3, f4, f5, f6, f7⟩ := eight_any ho4
  have HO4 := hide ho4
  have q8' : w4.cell? ⟨w.heap.size + 1 + 1, 8, none⟩ = some (.string ⟨y.toArray⟩) := q8
  clear hp4 hb4 ho4 hp4c q0 q1 q2 q3 q4 q5 q6 q7 q8
  go_wp2_with fail
  have R := eight_put (w0 := w) (.string ⟨#[]⟩) (.string ⟨#[]⟩) (.slice none 0 0) (.slice none 0 0) (.slice none 0 0) (.slice none 0 0) (.slice none 0 0) (.slice none 0 0) HO4.out HBW4.out (Nat.le_refl _)
  obtain ⟨u0, u1, u2, u3, u4, u5, u6, u7, -⟩ := eight_any R.row
  exact bodyPost_ret (v := .tuple #[.agg #[.string ⟨#[]⟩, .string ⟨#[]⟩, .slice none 0 0, .slice none 0 0, .slice none 0 0, .slice none 0 0, .slice none 0 0, .slice none 0 0], .bool false]) (by simp [results, Tryz.results18, go_sem, u0, u1, u2, u3, u4, u5, u6, u7]) rfl
    ⟨rfl, R.bel⟩
end Go.Proofs.YtgdmgmklncmanaaGreatDoor
/- The walks over the paths of an archive's files, and over what looks into an archive. -/
namespace Go.Proofs.YtgdmgmklncmanaaGreatDoor
open Go.RowKit
open Arc (St Cmd S)

theorem clone_any (x : S) (hx : x.length ≤ 2000) (w : World) :
    Calls Tryz.prog 19 #[.string ⟨x.toArray⟩] w fun e w' => e = .returned (.string ⟨x.toArray⟩) ∧ Below w.heap.size w w' := by
  go_enter Tryz.func19, Tryz.ntmps19
  go_wp2_with (go_at_call 44; refine (Tryz.stringslite_Clone ⟨x.toArray⟩ _ (by simp [ByteArray.size]; omega)).mono ?_; rintro e w1 ⟨rfl, hb⟩)
  go_ret
  exact ⟨rfl, hb⟩
theorem pair_at (F : List (S × S)) (k : Nat) (hk : k < F.length) : (F.flatMap pairV)[2 * k]? = some (strV (F.getD k ([], [])).1) ∧ (F.flatMap pairV)[2 * k + 1]? = some (strV (F.getD k ([], [])).2) := by
  induction F generalizing k with
  | nil => simp at hk
  | cons a l ih =>
    cases k with
    | zero => simp [pairV]
    | succ k =>
      have := ih k (by simpa using hk)
      rw [show 2 * (k + 1) = 2 * k + 1 + 1 from by omega]
      simpa [pairV] using this
def pathV (F : List (S × S)) (k : Nat) : List Value := (F.take k).map fun p => strV p.1
theorem pathV_next (F : List (S × S)) (k : Nat) (hk : k < F.length) : pathV F (k + 1) = pathV F k ++ [strV (F.getD k ([], [])).1] := by
  rw [pathV, List.take_succ_eq_append_getElem hk, List.map_append]
  simp [pathV, List.getD, List.getElem?_eq_getElem hk]

set_option maxRecDepth 8000 in
set_option maxHeartbeats 400000 in
theorem paths_any (F : List (S × S)) (hF : F.length ≤ 30) (hl : ∀ p ∈ F, p.1.length ≤ 2000) (base : Nat) (v : Value) (w : World) (h : w.ownsRow base 102 2 v F.length (F.flatMap pairV)) :
    Calls Tryz.prog 20 #[v] w fun e w' => ∃ o, e = .returned o ∧ w'.ownsRow w.heap.size 9 1 o F.length (pathV F F.length) ∧ Below w.heap.size w w' := by
  obtain ⟨i0, hi, hz0, hz1, hz2⟩ := info_three info_str
  obtain ⟨ao, c, rfl⟩ := slice_form h
  have hcell : ∀ k, k < F.length → ∃ g, ao = some ⟨g, 0, none⟩ ∧ g < w.heap.size ∧ w.cell? ⟨g, 2 * k, none⟩ = some (strV (F.getD k ([], [])).1) ∧ w.cell? ⟨g, 2 * k + 1, none⟩ = some (strV (F.getD k ([], [])).2) := by
    intro k hk
    obtain ⟨g, cap, hv⟩ := own_form h (by omega)
    cases hv
    have hp := pair_at F k hk
    exact ⟨g, rfl, (h.lt g rfl).2, by rw [h.cellAt _ (by omega)]; exact hp.1, by rw [h.cellAt _ (by omega)]; exact hp.2⟩
  have HC := hide hcell
  clear h hcell
  go_enter Tryz.func20, Tryz.ntmps20
  go_wp2_with fail
  go_loopw [3, 8] (fun o i wr => ∃ (k : Nat) (oo : Option Addr) (oc : Nat), k ≤ F.length ∧ i = .int .i64 k ∧ o = .slice oo k oc ∧ wr.ownsRow w.heap.size 9 1 o k (pathV F k) ∧ Below w.heap.size w wr)
    (fun _ i _ => F.length - (intOf i).toNat)
  case atStart => exact ⟨0, none, 0, by omega, rfl, rfl, World.ownsRow_nil _ _ _ _, Below.refl _ _⟩
  case round =>
    obtain ⟨k, oo, oc, hk, rfl, rfl, hown, hbel⟩ := hrel
    have hsize := hbel.size
    by_cases hlt : k < F.length
    · obtain ⟨g, rfl, hg, c1, c2⟩ := HC.out k hlt
      have b1 : (k : Int) < (F.length : Int) := by omega
      obtain ⟨p, hp⟩ : ∃ p, F.getD k ([], []) = p := ⟨_, rfl⟩
      have hpl : p.1.length ≤ 2000 := by rw [← hp, List.getD, List.getElem?_eq_getElem hlt]; exact hl _ (List.getElem_mem hlt)
      rw [hp] at c1 c2
      obtain ⟨p1, p2⟩ := p
      have d1 : wr.cell? ⟨g, k * 2, none⟩ = some (.string ⟨p1.toArray⟩) := by rw [Nat.mul_comm]; exact (hbel.cell (p := ⟨g, 2 * k, none⟩) hg).trans c1
      have d2 : wr.cell? ⟨g, k * 2 + 1, none⟩ = some (.string ⟨p2.toArray⟩) := by rw [Nat.mul_comm]; exact (hbel.cell (p := ⟨g, 2 * k + 1, none⟩) hg).trans c2
      have HP := hide hp
      clear c1 c2 hp
      go_wp2_with (first
        | (go_at_call 19; refine (clone_any p1 hpl _).mono ?_; rintro e w1 ⟨rfl, hb1⟩; have hown1 := own_below (hown.alloc _) hb1; have hbel1 := (hbel.alloc hsize _).trans (hb1.mono (by simp; omega)); have hs1 := hbel1.size)
        | (at_builtin; refine wpList_append_own _ rfl _ _ 30 rfl w.heap.size 9 i0 (.string ByteArray.empty) 1 16 Tryz.underlying30 hi hz0 hz1 hz2 rfl (by decide) _ _ _ rfl (hown1.alloc _) ⟨w1.heap.size, 0, none⟩ 1 1 [.string ⟨p1.toArray⟩] rfl rfl (cell_one_new _ _ _) (fun x hx => by simp at hx; subst hx; rfl) (by unfold maxLen; omega) (by omega) (by simp; omega) ?_; intro v' w3 hown' hgrow3 hnil3))
      go_roundw
      case rel =>
        obtain ⟨g3, c3, hv3⟩ := own_form hown' (by omega)
        refine ⟨k + 1, some ⟨g3, 0, none⟩, c3, by omega, by go_num, hv3, ?_, (hbel1.alloc hs1 _).grown hgrow3 (by simp; omega) (fun q hq => (hown.lt q hq).1)⟩
        rw [pathV_next F k hlt, HP.out]; exact hown'
      case measure => simp [intOf]; omega
    · obtain rfl : k = F.length := by omega
      go_wp2_with fail
      go_ret
      exact ⟨_, rfl, hown, hbel⟩
end Go.Proofs.YtgdmgmklncmanaaGreatDoor
