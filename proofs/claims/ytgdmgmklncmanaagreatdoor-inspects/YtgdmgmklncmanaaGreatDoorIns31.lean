/- Of Ins: RdW3. -/
import Derived.Test.YtgdmgmklncmanaaGreatDoorIns30
/- The walk over the document's own reading, whole. (Written by tools/gen_rdw3.py.) -/
namespace Go.Proofs.YtgdmgmklncmanaaGreatDoor
open Go.RowKit
open Arc (RSt RCmd S)

/-- What a reading leaves. -/
def RdPost (x : S) (o : Option (RSt × List (S × S))) (w : World) : Ending → World → Prop := fun e w' => match o with
  | none => e = .returned (.pointer none) ∧ Below w.heap.size w w'
  | some (st, F) => ∃ (ab : Nat) (sl : Fin 8 → Value), e = .returned (.pointer (some ⟨ab, 0, none⟩)) ∧ w.heap.size ≤ ab ∧ RFile ab x st sl F [] w' ∧ F.length = st.files.length ∧ Below w.heap.size w w'
theorem seg_on (x : S) (f k : Nat) (hf : f ≤ k) (hk : k < x.length) : (x.drop f).take (k + 1 - f) = (x.drop f).take (k - f) ++ [x[k]] := by
  have hk' : k - f < (x.drop f).length := by rw [List.length_drop]; omega
  rw [show k + 1 - f = (k - f) + 1 from by omega, List.take_succ_eq_append_getElem hk', List.getElem_drop]
  congr 2
  congr 1; omega
theorem sz_le (z : S) : sz z ≤ 9999 := by
  unfold sz
  split
  · rename_i h
    have hl : z.length ≤ 4 := by have := h.1; simp [Wd.lenIn] at this; omega
    have hb := Ver.vr_bd z (List.all_eq_true.1 h.2.2)
    rw [← Ver.val_vr] at hb
    have hp := Ver.pow_mono' (a := z.length) (b := 4) hl
    have : (10 : Int) ^ 4 = 10000 := by decide
    omega
  · decide
/-- Sizes are no less than nought and have four digits. -/
def RSz (st : RSt) : Prop := ∀ f ∈ st.files, 0 ≤ f.2.1 ∧ f.2.1 ≤ 9999
theorem rline_sz {st st' : RSt} {x : S} {r : List S} (hyp : Arc.rline st (x :: r) = some st') (hl : RSz st) : RSz st' := by
  rw [rline_cons] at hyp
  generalize rkd x = kk at hyp
  repeat' split at hyp
  all_goals first
    | (cases hyp; done)
    | (cases hyp; exact hl)
    | (rename_i hh
       cases hyp
       intro f hf
       rcases List.mem_append.1 hf with hf | hf
       · exact hl f hf
       · simp at hf
         subst hf
         exact ⟨hh.2.2.1, sz_le _⟩)
theorem strs_get (l : List S) (j : Nat) (y : S) (h : l[j]? = some y) : (strs l)[j]? = some (.string ⟨y.toArray⟩) := by simp [strs, h]
theorem Words.of {w : World} {B q c : Nat} {l : List S} (h : w.ownsRow B 9 1 (.slice (some ⟨q, 0, none⟩) l.length c) l.length (strs l)) : Words q l w := fun j y hy => by
  have hj := (List.getElem?_eq_some_iff.1 hy).1
  rw [h.cellAt j (by omega), strs_get l j y hy]
theorem own_cap {w : World} {B e size n g c : Nat} {xs : List Value} (h : w.ownsRow B e size (.slice (some ⟨g, 0, none⟩) n c) n xs) : n ≤ c ∧ c ≤ maxLen := by
  rcases h.2 with ⟨h', _⟩ | ⟨g', cap, cur, h', _, _, h1, h2, _⟩
  · simp at h'
  · simp only [Value.slice.injEq, Option.some.injEq, Addr.mk.injEq, and_true, true_and] at h'
    obtain ⟨rfl, rfl⟩ := h'
    exact ⟨h1, h2⟩
theorem RFile.below {ab : Nat} {tx : S} {st : RSt} {sl : Fin 8 → Value} {F : List (S × S)} {r : List (S × Int × S)} {w w' : World} (h : RFile ab tx st sl F r w) (hb : Below w.heap.size w w') : RFile ab tx st sl F r w' := RG.below h hb
theorem RFile.size {ab : Nat} {tx : S} {st : RSt} {sl : Fin 8 → Value} {F : List (S × S)} {r : List (S × Int × S)} {w : World} (h : RFile ab tx st sl F r w) : w.ownsRow (ab + 1) 3 1 (sl 6) st.files.length (st.files.map fun f => .int .i64 f.2.1) ∧ w.ownsRow (ab + 1) 9 1 (sl 7) st.files.length (st.files.map fun f => strV f.2.2) ∧ w.ownsRow (ab + 1) 48 2 (sl 3) st.files.length (rowF F r) := ⟨h.own 6, h.own 7, h.own 3⟩
/-- The block of the tables and the tables. -/
structure TbC (B tb gh ch gk ck : Nat) (w : World) : Prop where
  blk : w.heap[tb]? = some (.cells #[.slice (some ⟨gh, 0, none⟩) 8 ch, .slice (some ⟨gk, 0, none⟩) 64 ck] 78 (0, 0))
  hb : B ≤ tb
  hh : B ≤ gh
  hk : B ≤ gk
  lh : gh < w.heap.size
  lk : gk < w.heap.size
  ch8 : ∀ j, j < 8 → w.cell? ⟨gh, j, none⟩ = some (.int .u32 (iv.nth j))
  ck64 : ∀ j, j < 64 → w.cell? ⟨gk, j, none⟩ = some (.int .u32 (kTab j))
theorem TbC.below {B tb gh ch gk ck : Nat} {w w' : World} (h : TbC B tb gh ch gk ck w) (hb : Below w.heap.size w w') : TbC B tb gh ch gk ck w' :=
  ⟨(hb.block _ (lt_of_block h.blk)).trans h.blk, h.hb, h.hh, h.hk, by have := hb.size; have := h.lh; omega, by have := hb.size; have := h.lk; omega, fun j hj => (hb.cell (p := ⟨gh, j, none⟩) h.lh).trans (h.ch8 j hj), fun j hj => (hb.cell (p := ⟨gk, j, none⟩) h.lk).trans (h.ck64 j hj)⟩
theorem TbC.set {B tb gh ch gk ck : Nat} {w : World} (h : TbC B tb gh ch gk ck w) {g : Nat} (hg : g < B) (i : Nat) (v : Value) : TbC B tb gh ch gk ck (w.setCell ⟨g, i, none⟩ v) := by
  have h1 := h.hb; have h2 := h.hh; have h3 := h.hk
  refine ⟨?_, h1, h2, h3, ?_, ?_, fun j hj => ?_, fun j hj => ?_⟩
  · rw [Below.heap_setCell _ _ _ _ (by show tb ≠ g; omega)]; exact h.blk
  · have := h.lh; simpa using this
  · have := h.lk; simpa using this
  · have := h.ch8 j hj
    unfold World.cell? at this ⊢
    rw [Below.heap_setCell _ _ _ _ (by show gh ≠ g; omega)]; exact this
  · have := h.ck64 j hj
    unfold World.cell? at this ⊢
    rw [Below.heap_setCell _ _ _ _ (by show gk ≠ g; omega)]; exact this
theorem TbC.begin {wr w1 : World} {gh ch gk ck : Nat} (oh : w1.ownsRow (wr.heap.size + 1) 110 1 (.slice (some ⟨gh, 0, none⟩) 8 ch) 8 (u32s (tabH 8))) (ok : w1.ownsRow (wr.heap.size + 1) 110 1 (.slice (some ⟨gk, 0, none⟩) 64 ck) 64 (u32s (tabK 64)))
    (T3 : ((w1.setCell ⟨wr.heap.size, 0, none⟩ (.slice (some ⟨gh, 0, none⟩) 8 ch)).setCell ⟨wr.heap.size, 1, none⟩ (.slice (some ⟨gk, 0, none⟩) 64 ck)).heap[wr.heap.size]? = some (.cells #[.slice (some ⟨gh, 0, none⟩) 8 ch, .slice (some ⟨gk, 0, none⟩) 64 ck] 78 (0, 0))) :
    TbC wr.heap.size wr.heap.size gh ch gk ck ((w1.setCell ⟨wr.heap.size, 0, none⟩ (.slice (some ⟨gh, 0, none⟩) 8 ch)).setCell ⟨wr.heap.size, 1, none⟩ (.slice (some ⟨gk, 0, none⟩) 64 ck)) := by
  have h1 := oh.lt gh rfl
  have h2 := ok.lt gk rfl
  refine ⟨T3, Nat.le_refl _, by omega, by omega, by simpa using h1.2, by simpa using h2.2, fun j hj => ?_, fun j hj => ?_⟩
  · have := rowH oh j hj
    unfold World.cell? at this ⊢
    rw [Below.heap_setCell _ _ _ _ (by show gh ≠ wr.heap.size; omega), Below.heap_setCell _ _ _ _ (by show gh ≠ wr.heap.size; omega)]; exact this
  · have := rowKt ok j hj
    unfold World.cell? at this ⊢
    rw [Below.heap_setCell _ _ _ _ (by show gk ≠ wr.heap.size; omega), Below.heap_setCell _ _ _ _ (by show gk ≠ wr.heap.size; omega)]; exact this
theorem rowF_got (F : List (S × S)) (p c : S) (r : List (S × Int × S)) : ((F ++ [(p, c)]).flatMap pairV ++ r.flatMap fileV)[2 * F.length + 1]? = some (.string ⟨c.toArray⟩) := by
  have h1 : (F.flatMap pairV).length = 2 * F.length := by
    have := rowF_len F []
    simpa [rowF] using this
  rw [List.flatMap_append, List.append_assoc, List.getElem?_append_right (by omega), h1, show 2 * F.length + 1 - 2 * F.length = 1 from by omega]
  rfl
theorem eat_cons (f : S → S) (p : S) (z : Int) (h : S) (r : List (S × Int × S)) (c : S) : Arc.eat f ((p, z, h) :: r) c = if z ≤ c.length ∧ f (c.take z.toNat) = h then (Arc.eat f r (c.drop z.toNat)).map fun q => ((p, c.take z.toNat) :: q.1, q.2) else none := rfl

set_option maxRecDepth 100000 in
set_option maxHeartbeats 2000000 in
theorem read_long (x : S) (hx : 2000 < x.length) (w : World) : Calls Tryz.prog 10 #[.string ⟨x.toArray⟩] w fun e w' => e = .returned (.pointer none) ∧ Below w.heap.size w w' := by
  have gx : (2000 : Int) < (x.length : Int) := by omega
  go_enter Tryz.func10, Tryz.ntmps10
  go_wp2_with fail
  go_ret
  exact ⟨rfl, Below.refl _ _⟩

set_option maxRecDepth 100000 in
set_option maxHeartbeats 8000000 in
theorem read_any (x : S) (hx : x.length ≤ 2000) (w : World) : Calls Tryz.prog 10 #[.string ⟨x.toArray⟩] w (RdPost x (Arc.rread (short kTab) x) w) := by
  have gx : ¬ (2000 : Int) < (x.length : Int) := by omega
  have HR := hide (rread_rcf (short kTab) x hx)
  go_enter Tryz.func10, Tryz.ntmps10
  go_wp2_with fail
  go_loopw [4, 5, 6, 7, 8, 9] (fun z hs l c fr i wr => ∃ (k f n : Nat) (la : Int) (st : RSt) (sl : Fin 8 → Value), k ≤ x.length ∧ f ≤ k ∧ n ≤ k ∧ z = sl 6 ∧ hs = sl 7 ∧ l = .int .i64 la ∧ c = .int .i64 (n : Int) ∧ fr = .int .i64 (f : Int) ∧ i = .int .i64 (k : Int) ∧ -1 ≤ la ∧ la ≤ 8 ∧ Hid (rcf .zero (-1) 0 [] x = rcf st la n ((x.drop f).take (k - f)) (x.drop k)) ∧ Hid (RLe st n) ∧ Hid (RSz st) ∧ Hid (RIn w.heap.size x st sl wr) ∧ Hid (Below w.heap.size w wr))
    (fun _ _ _ _ _ i _ => x.length - (intOf i).toNat)
  case atStart => exact ⟨0, 0, 0, -1, .zero, _, by omega, by omega, by omega, rfl, rfl, rfl, rfl, rfl, rfl, by omega, by omega, hide (by simp), hide ⟨by simp [RSt.zero], by simp [RSt.zero], by simp [RSt.zero], by simp [RSt.zero], by simp [RSt.zero], by simp [RSt.zero]⟩, hide (fun f hf => by simp [RSt.zero] at hf), hide (RIn.begin w x), hide ((Below.refl _ w).alloc (Nat.le_refl _) _)⟩
  case round =>
    obtain ⟨k, f, n, la, st, sl, hk, hf, hn, rfl, rfl, rfl, rfl, rfl, rfl, hla1, hla2, HE, HL, HZ, HI, HB⟩ := hrel
    by_cases hlt : k < x.length
    · have b1 : ¬ (x.length : Int) ≤ (k : Int) := by omega
      have b1' : (k : Int) < (x.length : Int) := by omega
      obtain ⟨ch, hch, hchx⟩ : ∃ ch, (⟨x.toArray⟩ : ByteArray)[k]'hlt = ch ∧ x[k] = ch := ⟨_, rfl, rfl⟩
      have hd : x.drop k = ch :: x.drop (k + 1) := by rw [List.drop_eq_getElem_cons hlt, hchx]
      have hE := HE.out
      rw [hd] at hE
      by_cases h10 : ch = 10
      · have hb10 : ((ch.toNat : Int) != 10) = false := by subst h10; rfl
        by_cases hfk : f = k
        · subst hfk
          have hE2 : rcf .zero (-1) 0 [] x = some (st, la, n, x.drop (f + 1)) := by rw [hE, h10, Nat.sub_self, List.take_zero, rcf_stop]
          have hfx : f + 1 ≤ x.length := by omega
          have bfk : ((f : Int) == (f : Int)) = true := by simp
          clear hE hd HE hchx
          by_cases g1 : la < 2
          · have HN : Hid (Arc.rread (short kTab) x = none) := hide (by rw [HR.out, hE2]; exact if_pos (.inl g1))
            clear hE2
            go_wp2_with fail
            go_ret
            rw [HN.out]
            exact ⟨rfl, HB.out⟩
          · by_cases g2 : (24 : Int) < (n : Int)
            · have HN : Hid (Arc.rread (short kTab) x = none) := hide (by rw [HR.out, hE2]; exact if_pos (.inr (by omega)))
              clear hE2
              go_wp2_with fail
              go_ret
              rw [HN.out]
              exact ⟨rfl, HB.out⟩
            · have HN : Hid (Arc.rread (short kTab) x = match Arc.eat (short kTab) st.files (x.drop (f + 1)) with
                  | none => none
                  | some (F, left) => if left = [] then some (st, F) else none) := hide (by rw [HR.out, hE2]; exact if_neg (by omega))
              clear hE2 HR
              obtain ⟨fs, hfs⟩ : ∃ fs, st.files = fs := ⟨_, rfl⟩
              obtain ⟨a3, c3, hs3⟩ := slice_form (HI.out.own 3)
              rw [show (rrow st 3).1 = fs.length from by rw [← hfs]; rfl] at hs3
              have HI2 := hide (HI.out.alloc (.cells #[.slice none 0 0, .slice none 0 0] 78))
              have HB2 := hide (HB.out.alloc HB.out.size (.cells #[.slice none 0 0, .slice none 0 0] 78))
              have q3 := (row_cell HI2.out.blk 6).trans (show _ = some (.slice a3 fs.length c3) from by rw [← hs3]; rfl)
              by_cases hm : fs = []
              · have HFS := hide hfs
                have HN2 : Hid (Arc.rread (short kTab) x = if x.drop (f + 1) = [] then some (st, []) else none) := hide (by rw [HN.out, hfs, hm]; rfl)
                subst hm
                clear hfs HN
                go_wp2_with fail
                go_loopw [8, 14] (fun fr i wr2 => fr = .int .i64 ((f : Int) + 1) ∧ i = .int .i64 (0 : Int) ∧ wr2 = wr.alloc (.cells #[.slice none 0 0, .slice none 0 0] 78)) (fun _ _ _ => 0)
                case atStart => exact ⟨rfl, rfl, rfl⟩
                case round =>
                  obtain ⟨rfl, rfl, rfl⟩ := hrel
                  by_cases hxl : ((f : Int) + 1 != (x.length : Int)) = true
                  · go_wp2_with fail
                    go_ret
                    rw [HN2.out, if_neg (fun e => by have := congrArg List.length e; simp at this hxl; omega)]
                    exact ⟨rfl, HB2.out⟩
                  · have hxl' : ((f : Int) + 1 != (x.length : Int)) = false := by simpa using hxl
                    go_wp2_with fail
                    go_ret
                    rw [HN2.out, if_pos (by simp at hxl; exact List.drop_of_length_le (by omega))]
                    exact ⟨_, sl, rfl, Nat.le_refl _, by have := RIn.toFile HI2.out; rw [HFS.out] at this; exact this, by rw [HFS.out]; rfl, HB2.out⟩
              · have hm3 : 0 < fs.length := List.length_pos_iff.2 hm
                have hm9 : fs.length ≤ 2000 := by have := HL.out.2.2.2.1; rw [hfs] at this; omega
                have hm3' : (0 : Int) < (fs.length : Int) := by omega
                obtain ⟨g3, cc3, hs3b⟩ := own_form (HI.out.own 3) (by rw [show (rrow st 3).1 = fs.length from by rw [← hfs]; rfl]; exact hm3)
                obtain ⟨g6, c6, hs6⟩ := own_form (HI.out.own 6) (by rw [show (rrow st 6).1 = fs.length from by rw [← hfs]; rfl]; exact hm3)
                obtain ⟨g7, c7, hs7⟩ := own_form (HI.out.own 7) (by rw [show (rrow st 7).1 = fs.length from by rw [← hfs]; rfl]; exact hm3)
                have hg3 := ((HI.out.own 3).lt g3 (by rw [hs3b]; rfl)).2
                rw [show (rrow st 3).1 = fs.length from by rw [← hfs]; rfl] at hs3b
                rw [show (rrow st 6).1 = fs.length from by rw [← hfs]; rfl] at hs6
                rw [show (rrow st 7).1 = fs.length from by rw [← hfs]; rfl] at hs7
                rw [hs6, hs7]
                have HS3 := hide hs3b; have HS6 := hide hs6; have HS7 := hide hs7
                obtain ⟨rfl, rfl⟩ : a3 = some ⟨g3, 0, none⟩ ∧ c3 = cc3 := by rw [hs3] at hs3b; simpa using hs3b
                have HFS := hide hfs
                have hg3w := ((HI.out.own 3).lt g3 (by rw [HS3.out]; rfl)).1
                have hg3w : w.heap.size ≤ g3 := by omega
                clear hs3 hs3b hs6 hs7
                go_wp2_with (first
                  | (go_at_call 24; refine (tables_any _).mono ?_; rintro e w1 ⟨hv, kv, rfl, oh, ok, hb1⟩; obtain ⟨gh, ch2, rfl⟩ := own_form oh (by omega); obtain ⟨gk, ck2, rfl⟩ := own_form ok (by omega); have T1 := (hb1.block wr.heap.size (by simp)).trans (heap_alloc_new wr _); have T2 := heap_setCell_same _ wr.heap.size 0 _ _ (Value.slice (some ⟨gh, 0, none⟩) 8 ch2) T1; have T3 := heap_setCell_same _ wr.heap.size 1 _ _ (Value.slice (some ⟨gk, 0, none⟩) 64 ck2) T2; have t10 := row_cell T1 0; have f10 := row_free T1 0; have t11 := row_cell T2 1; have f11 := row_free T2 1; have HT := hide (TbC.begin (by rw [show wr.heap.size + 1 = (wr.alloc (.cells #[.slice none 0 0, .slice none 0 0] 78)).heap.size from by simp]; exact oh) (by rw [show wr.heap.size + 1 = (wr.alloc (.cells #[.slice none 0 0, .slice none 0 0] 78)).heap.size from by simp]; exact ok) T3); have hbw := (((Below.refl _ wr).alloc (Nat.le_refl _) _).trans (hb1.mono (by simp : wr.heap.size ≤ _))); clear oh ok hb1))
                have hbx := (hbw.setCell (p := ⟨wr.heap.size, 0, none⟩) (Nat.le_refl _) (Value.slice (some ⟨gh, 0, none⟩) 8 ch2)).setCell (p := ⟨wr.heap.size, 1, none⟩) (Nat.le_refl _) (Value.slice (some ⟨gk, 0, none⟩) 64 ck2)
                have HIx := hide (RIn.toFile (HI.out.below hbx))
                have HBx := hide (HB.out.trans (hbx.mono HB.out.size))
                clear hbx hbw T1 T2 T3 t10 f10 t11 f11 q3
                obtain ⟨TB, hTB⟩ : ∃ TB, wr.heap.size = TB := ⟨_, rfl⟩
                rw [hTB] at hg3 HT HIx HBx ⊢
                clear hTB
                go_loopw [8, 14] (fun fr i w2 => ∃ (j f2 : Nat) (F : List (S × S)), j ≤ fs.length ∧ f2 ≤ x.length ∧ F.length = j ∧ fr = .int .i64 (f2 : Int) ∧ i = .int .i64 (j : Int) ∧ Hid (RFile w.heap.size x st sl F (fs.drop j) w2) ∧ Hid (Arc.eat (short kTab) fs (x.drop (f + 1)) = (Arc.eat (short kTab) (fs.drop j) (x.drop f2)).map fun q => (F ++ q.1, q.2)) ∧ Hid (TbC TB TB gh ch2 gk ck2 w2) ∧ Hid (Below w.heap.size w w2)) (fun _ i _ => fs.length - (intOf i).toNat)
                case atStart => exact ⟨0, f + 1, [], by omega, hfx, rfl, by go_num, rfl, hide (by rw [List.drop_zero, ← HFS.out]; exact HIx.out), hide (by rw [List.drop_zero]; cases Arc.eat (short kTab) fs (x.drop (f + 1)) <;> simp), HT, HBx⟩
                case round =>
                  clear HT HIx HBx HI HI2 HB HB2
                  obtain ⟨j, f2, F, hj, hf2, hF, rfl, rfl, HF, HEA, HT, HB⟩ := hrel
                  have q3 := (row_cell HF.out.blk 6).trans (show _ = some (.slice (some ⟨g3, 0, none⟩) fs.length c3) from by rw [← HS3.out]; rfl)
                  by_cases hjm : j < fs.length
                  · have b1 : (j : Int) < (fs.length : Int) := by omega
                    obtain ⟨⟨p, z, h⟩, hfj⟩ : ∃ y, fs[j] = y := ⟨_, rfl⟩
                    have hfq : fs[j]? = some (p, z, h) := by rw [List.getElem?_eq_getElem hjm, hfj]
                    have hdj : fs.drop j = (p, z, h) :: fs.drop (j + 1) := by rw [List.drop_eq_getElem_cons hjm, hfj]
                    obtain ⟨hz0, hz9⟩ := HZ.out (p, z, h) (by rw [HFS.out]; exact List.mem_of_getElem? hfq)
                    obtain ⟨zn, rfl⟩ : ∃ zn : Nat, z = (zn : Int) := ⟨z.toNat, by simp only at hz0; omega⟩
                    have hz9' : zn ≤ 9999 := by simp only at hz9; omega
                    obtain ⟨o6, o7, o3⟩ := HF.out.size
                    rw [HS6.out, HFS.out] at o6
                    rw [HS7.out, HFS.out] at o7
                    rw [HS3.out, HFS.out] at o3
                    have d6 : wr.cell? ⟨g6, j, none⟩ = some (.int .i64 (zn : Int)) := by rw [o6.cellAt j (by omega)]; simp [hfq]
                    have d7 : wr.cell? ⟨g7, j, none⟩ = some (strV h) := by rw [o7.cellAt j (by omega)]; simp [hfq]
                    have d3 : wr.cell? ⟨g3, j * 2 + 1, none⟩ = some (strV []) := by rw [show j * 2 + 1 = 2 * j + 1 from by omega, o3.cellAt (2 * j + 1) (by omega), hdj]; exact (rowF_at F _ _ j hF.symm).2
                    have e3 := o3.frozenAt (j * 2 + 1)
                    have hE := HEA.out
                    rw [hdj, eat_cons] at hE
                    obtain ⟨t, ht⟩ : ∃ t, f2 + zn = t := ⟨_, rfl⟩
                    have hi1 : (f2 : Int) + (zn : Int) = (t : Int) := by omega
                    have hi2 : t ≤ 12000 := by omega
                    by_cases hlong : (x.length : Int) < (t : Int)
                    · have HN2 : Hid (Arc.rread (short kTab) x = none) := hide (by
                        rw [if_neg (by rw [List.length_drop]; omega)] at hE
                        rw [HN.out, HFS.out, hE]; rfl)
                      clear hE hdj hfq hfj o6 o7 o3 ht
                      go_wp2_with fail
                      go_ret
                      rw [HN2.out]
                      exact ⟨rfl, HB.out⟩
                    · have hfit : t ≤ x.length := by omega
                      have i1 : (f2 : Int) ≤ (t : Int) := by omega
                      have i2 : (t : Int) ≤ (x.length : Int) := by omega
                      have i0 : 0 ≤ (f2 : Int) := by omega
                      obtain ⟨ct, hct⟩ : ∃ ct, (x.drop f2).take zn = ct := ⟨_, rfl⟩
                      have hcl : ct.length ≤ 2000 := by rw [← hct, List.length_take, List.length_drop]; omega
                      have ex : (⟨x.toArray⟩ : ByteArray).extract f2 t = ⟨ct.toArray⟩ := by rw [cut_mid, ← hct, show t - f2 = zn from by omega]
                      have ed : (x.drop f2).drop zn = x.drop t := by rw [List.drop_drop, ht]
                      rw [Int.toNat_natCast, hct, ed] at hE
                      have hFN := RFile.set (F := F) (f := (p, (zn : Int), h)) (r := fs.drop (j + 1)) (by rw [← hdj]; exact HF.out) HS3.out (by rw [HFS.out]) ct j hF.symm
                      have hTN := HT.out.set hg3 (2 * j + 1) (strV ct)
                      have hBN := HB.out.setCell (p := ⟨g3, 2 * j + 1, none⟩) hg3w (strV ct)
                      rw [show 2 * j + 1 = j * 2 + 1 from by omega] at hFN hTN hBN
                      have HFN := hide hFN
                      have HTN := hide hTN
                      have HBN := hide hBN
                      have HEE := hide hE
                      have HZT := hide ht
                      clear hdj hfj hct ed o6 o7 o3 hE ht hFN hTN hBN
                      go_wp2_with fail
                      go_region
                      obtain ⟨W, hW⟩ : ∃ W, (wr.setCell ⟨g3, j * 2 + 1, none⟩ (Value.string ⟨ct.toArray⟩)).drew = W := ⟨_, rfl⟩
                      have HFW : Hid (RFile w.heap.size x st sl (F ++ [(p, ct)]) (fs.drop (j + 1)) W) := hide (by rw [← hW]; exact RG.drew HFN.out)
                      have HTW := hide (show TbC _ _ gh ch2 gk ck2 W from by rw [← hW]; exact HTN.out.below ((Below.refl _ _).drew))
                      have HBW : Hid (Below w.heap.size w W) := hide (by rw [← hW]; exact HBN.out.drew)
                      rw [hW]
                      clear hW HFN HTN HBN HF HT HB d3 e3 q3 d6 d7
                      obtain ⟨o6, o7, o3⟩ := HFW.out.size
                      rw [HS6.out, HFS.out] at o6
                      rw [HS3.out, HFS.out] at o3
                      have q3 := (row_cell HFW.out.blk 6).trans (show _ = some (.slice (some ⟨g3, 0, none⟩) fs.length c3) from by rw [← HS3.out]; rfl)
                      have d6 : W.cell? ⟨g6, j, none⟩ = some (.int .i64 (zn : Int)) := by rw [o6.cellAt j (by omega)]; simp [hfq]
                      have d3 : W.cell? ⟨g3, j * 2 + 1, none⟩ = some (.string ⟨ct.toArray⟩) := by rw [o3.cellAt (j * 2 + 1) (by omega), rowF, show j * 2 + 1 = 2 * F.length + 1 from by omega]; exact rowF_got F p ct _
                      have t0 := (row_cell HTW.out.blk 0).trans (show _ = some (.slice (some ⟨gh, 0, none⟩) 8 ch2) from rfl)
                      have t1 := (row_cell HTW.out.blk 1).trans (show _ = some (.slice (some ⟨gk, 0, none⟩) 64 ck2) from rfl)
                      have d7 : W.cell? ⟨g7, j, none⟩ = some (.string ⟨h.toArray⟩) := by rw [HS7.out, HFS.out] at o7; rw [o7.cellAt j (by omega)]; simp [hfq, strV]
                      have hg3W := (o3.lt g3 rfl).2
                      have hg7W : g7 < W.heap.size := (o7.lt g7 (by rw [HS7.out]; rfl)).2
                      clear o6 o7 o3
                      go_wp2_with fail
                      obtain ⟨hs, hhs⟩ : ∃ hs, short kTab ct = hs := ⟨_, rfl⟩
                      have HHS := hide hhs
                      clear hhs
                      by_cases hsame : hs = h
                      · have bq : (hs == h) = true := by simp [hsame]
                        have BQ := hide hsame
                        clear hsame
                        go_region_held3 (fun w' => w'.cell? ⟨TB, 0, none⟩ = some (.slice (some ⟨gh, 0, none⟩) 8 ch2) ∧ w'.cell? ⟨TB, 1, none⟩ = some (.slice (some ⟨gk, 0, none⟩) 64 ck2) ∧ w'.cell? ⟨w.heap.size, 6, none⟩ = some (.slice (some ⟨g3, 0, none⟩) fs.length c3) ∧ w'.cell? ⟨g3, j * 2 + 1, none⟩ = some (.string ⟨ct.toArray⟩))
                          (first | assumption | exact ⟨k0, k1, q4, k3⟩ | simp [go_sem, *])
                          (first
                            | (go_at_call 25; refine (rhash_any ct hcl kTab gh ch2 gk ck2 W.drew HTW.out.lh HTW.out.lk (fun i hi => HTW.out.ch8 i hi) (fun i hi => HTW.out.ck64 i hi)).mono ?_; rintro e w4 ⟨he, hb4⟩; rw [HHS.out] at he; subst he; have HF4 := hide (RFile.below (RG.drew HFW.out) hb4); have HT4 := hide (TbC.below (TbC.below HTW.out ((Below.refl _ _).drew)) hb4); have HB4 := hide (HBW.out.drew.trans (hb4.mono HBW.out.size)); have q4 := (row_cell HF4.out.blk 6).trans (show _ = some (.slice (some ⟨g3, 0, none⟩) fs.length c3) from by rw [← HS3.out]; rfl); have k3 : w4.cell? ⟨g3, j * 2 + 1, none⟩ = some (.string ⟨ct.toArray⟩) := (hb4.cell (p := ⟨g3, j * 2 + 1, none⟩) hg3W).trans d3; have k7 : w4.cell? ⟨g7, j, none⟩ = some (.string ⟨h.toArray⟩) := (hb4.cell (p := ⟨g7, j, none⟩) hg7W).trans d7; have k0 := (row_cell HT4.out.blk 0).trans (show _ = some (.slice (some ⟨gh, 0, none⟩) 8 ch2) from rfl); have k1 := (row_cell HT4.out.blk 1).trans (show _ = some (.slice (some ⟨gk, 0, none⟩) 64 ck2) from rfl); clear hb4))
                        all_goals go_wp2_with fail
                        all_goals exact ⟨⟨j + 1, t, F ++ [(p, ct)], by omega, by omega, by simp [hF], rfl, by go_num, HF4, hide (by
                          rw [HEE.out, if_pos ⟨by rw [List.length_drop]; have := HZT.out; omega, by rw [HHS.out, BQ.out]⟩]
                          cases Arc.eat (short kTab) (fs.drop (j + 1)) (x.drop t) <;> simp), HT4, HB4⟩, by simp [intOf]; omega⟩
                      · have bq : (hs == h) = false := by simpa using hsame
                        have HN2 : Hid (Arc.rread (short kTab) x = none) := hide (by
                          have hE := HEE.out
                          rw [if_neg (fun e => hsame (by rw [← HHS.out]; exact e.2))] at hE
                          rw [HN.out, HFS.out, hE]; rfl)
                        go_region_held3 (fun w' => w'.cell? ⟨TB, 0, none⟩ = some (.slice (some ⟨gh, 0, none⟩) 8 ch2) ∧ w'.cell? ⟨TB, 1, none⟩ = some (.slice (some ⟨gk, 0, none⟩) 64 ck2) ∧ w'.cell? ⟨w.heap.size, 6, none⟩ = some (.slice (some ⟨g3, 0, none⟩) fs.length c3) ∧ w'.cell? ⟨g3, j * 2 + 1, none⟩ = some (.string ⟨ct.toArray⟩))
                          (first | assumption | exact ⟨k0, k1, q4, k3⟩ | simp [go_sem, *])
                          (first
                            | (go_at_call 25; refine (rhash_any ct hcl kTab gh ch2 gk ck2 W.drew HTW.out.lh HTW.out.lk (fun i hi => HTW.out.ch8 i hi) (fun i hi => HTW.out.ck64 i hi)).mono ?_; rintro e w4 ⟨he, hb4⟩; rw [HHS.out] at he; subst he; have HF4 := hide (RFile.below (RG.drew HFW.out) hb4); have HT4 := hide (TbC.below (TbC.below HTW.out ((Below.refl _ _).drew)) hb4); have HB4 := hide (HBW.out.drew.trans (hb4.mono HBW.out.size)); have q4 := (row_cell HF4.out.blk 6).trans (show _ = some (.slice (some ⟨g3, 0, none⟩) fs.length c3) from by rw [← HS3.out]; rfl); have k3 : w4.cell? ⟨g3, j * 2 + 1, none⟩ = some (.string ⟨ct.toArray⟩) := (hb4.cell (p := ⟨g3, j * 2 + 1, none⟩) hg3W).trans d3; have k7 : w4.cell? ⟨g7, j, none⟩ = some (.string ⟨h.toArray⟩) := (hb4.cell (p := ⟨g7, j, none⟩) hg7W).trans d7; have k0 := (row_cell HT4.out.blk 0).trans (show _ = some (.slice (some ⟨gh, 0, none⟩) 8 ch2) from rfl); have k1 := (row_cell HT4.out.blk 1).trans (show _ = some (.slice (some ⟨gk, 0, none⟩) 64 ck2) from rfl); clear hb4))
                        all_goals go_wp2_with fail
                        all_goals go_ret
                        all_goals rw [HN2.out]
                        all_goals exact ⟨rfl, HB4.out⟩
                  · obtain rfl : j = fs.length := by omega
                    have b1 : ¬ ((fs.length : Nat) : Int) < ((fs.length : Nat) : Int) := by omega
                    have HN2 : Hid (Arc.rread (short kTab) x = if x.drop f2 = [] then some (st, F) else none) := hide (by rw [HN.out, HFS.out, HEA.out, List.drop_length]; simp [Arc.eat])
                    by_cases hxl : ((f2 : Int) != (x.length : Int)) = true
                    · go_wp2_with fail
                      go_ret
                      rw [HN2.out, if_neg (fun e => by have := congrArg List.length e; simp at this hxl; omega)]
                      exact ⟨rfl, HB.out⟩
                    · have hxl' : ((f2 : Int) != (x.length : Int)) = false := by simpa using hxl
                      go_wp2_with fail
                      go_ret
                      rw [HN2.out, if_pos (by simp at hxl; exact List.drop_of_length_le (by omega))]
                      exact ⟨_, sl, rfl, Nat.le_refl _, by have := HF.out; rw [List.drop_length] at this; exact this, by rw [HFS.out, hF], HB.out⟩
        · have hfk' : ((k : Int) == (f : Int)) = false := by simp; omega
          obtain ⟨seg, hseg⟩ : ∃ seg, (x.drop f).take (k - f) = seg := ⟨_, rfl⟩
          have hsl : seg.length = k - f := by rw [← hseg, List.length_take, List.length_drop]; omega
          have hne : seg ≠ [] := by intro e; rw [e] at hsl; simp at hsl; omega
          rw [hseg, h10, rcf_line _ _ _ _ _ hne] at hE
          obtain ⟨a, r, har⟩ : ∃ a r, sp 32 seg = a :: r := by
            cases h : sp 32 seg with
            | nil => exact absurd h (sp_ne 32 seg)
            | cons a r => exact ⟨a, r, rfl⟩
          obtain ⟨kk, hkk⟩ : ∃ kk, rkd a = kk := ⟨_, rfl⟩
          rw [har, show (a :: r).head! = a from rfl, hkk] at hE
          have hsx : (⟨x.toArray⟩ : ByteArray).extract f k = ⟨seg.toArray⟩ := by rw [cut_mid, hseg]
          have hwl : ∀ y ∈ a :: r, y.length ≤ 2000 := fun y hy => by have := sp_le 32 seg y (by rw [har]; exact hy); omega
          have hrl : r.length + 1 ≤ 2001 := by have := sp_len 32 seg; rw [har] at this; simp at this; omega
          have hspl : spl seg = a :: r := by rw [Arc.spl_sp, har]
          have hs2 : seg.length ≤ 2000 := by omega
          have HSPL := hide hspl; have HKK := hide hkk; have HWL := hide hwl
          have hkr := rkd_rng a
          rw [hkk] at hkr
          have i1 : (f : Int) ≤ (k : Int) := by omega
          have i2 : (k : Int) ≤ (x.length : Int) := by omega
          obtain ⟨m, hm⟩ : ∃ m, r.length + 1 = m := ⟨_, rfl⟩
          have HMR := hide hm
          have i3 : (0 : Int) < (m : Int) := by omega
          have hbs := HB.out.size
          have HLN : Hid (∀ (w1 : World) (q c : Nat), RIn w.heap.size x st sl w1 → wr.heap.size ≤ q → w1.ownsRow wr.heap.size 9 1 (.slice (some ⟨q, 0, none⟩) m c) m (strs (a :: r)) →
              Calls Tryz.prog 23 #[.pointer (some ⟨w.heap.size, 0, none⟩), .slice (some ⟨q, 0, none⟩) m c, sl 6, sl 7] w1 (RlPost w.heap.size x (Arc.rline st (a :: r)) w1)) := hide (by
            intro w1 q c hp hq ho
            have hil := HI.out.lt
            have hcap := own_cap ho
            have ho2 : w1.ownsRow wr.heap.size 9 1 (.slice (some ⟨q, 0, none⟩) (a :: r).length c) (a :: r).length (strs (a :: r)) := by rw [show (a :: r).length = m from hm]; exact ho
            have := rl_any w.heap.size q c x st sl a r HWL.out (HL.out.fits (by omega)) (by rw [hm]; exact hcap.1) w1 hp ⟨(ho.lt q rfl).2, by omega, fun i e => by have := ((HI.out.own i).lt _ e).2; omega⟩ (Words.of ho2)
            rwa [hm] at this)
          clear hseg hkk hspl hwl hd HE hchx h10 hne hsl hm har
          cases hrl2 : Arc.rline st (a :: r) with
          | none =>
            rw [hrl2] at hE
            have HRL := hide hrl2
            have HN : Hid (Arc.rread (short kTab) x = none) := hide (by rw [HR.out, hE])
            clear hE hrl2
            go_wp2_with (first
              | (go_at_call 21; refine (rwords_any seg hs2 _).mono ?_; rintro e w1 ⟨v, rfl, how, hb1⟩; rw [HSPL.out, show (a :: r).length = m from HMR.out] at how; obtain ⟨q, qc, hv⟩ := own_form how (by omega); subst hv; have HI1 := hide (HI.out.below hb1); have HB1 := hide (HB.out.trans (hb1.mono hbs)); have hq1 := (how.lt q rfl).1; have hq2 := (how.lt q rfl).2; have d0 : w1.cell? ⟨q, 0, none⟩ = some (.string ⟨a.toArray⟩) := (by rw [how.cellAt 0 (by omega)]; rfl); have HOW := hide how; clear how hb1)
              | (go_at_call 22; refine (rkind_any a _).mono ?_; rintro e w2 ⟨he, hb2⟩; rw [HKK.out] at he; subst he; have HI2 := hide (HI1.out.below hb2); have HB2 := hide (HB1.out.trans (hb2.mono HB1.out.size)); have HOW2 := hide (own_below HOW.out hb2); clear hb2)
              | (go_at_call 23; refine (HLN.out _ q qc HI2.out hq1 HOW2.out).mono ?_; rintro e w4 hpost; rw [HRL.out] at hpost; obtain ⟨⟨v1, v2, rfl⟩, hb4⟩ := hpost))
            go_ret
            rw [HN.out]
            exact ⟨rfl, HB2.out.trans hb4⟩
          | some st' =>
            rw [hrl2] at hE
            simp only at hE
            have HRL := hide hrl2
            have HL2 := hide (rline_le hrl2 HL.out)
            have HZ2 := hide (rline_sz hrl2 HZ.out)
            clear hrl2
            by_cases hbad : Arc.rbad kk la
            · have HN : Hid (Arc.rread (short kTab) x = none) := hide (by rw [HR.out, hE, if_pos hbad])
              clear hE
              by_cases c1 : kk < la
              · go_wp2_with (first
                  | (go_at_call 21; refine (rwords_any seg hs2 _).mono ?_; rintro e w1 ⟨v, rfl, how, hb1⟩; rw [HSPL.out, show (a :: r).length = m from HMR.out] at how; obtain ⟨q, qc, hv⟩ := own_form how (by omega); subst hv; have HI1 := hide (HI.out.below hb1); have HB1 := hide (HB.out.trans (hb1.mono hbs)); have hq1 := (how.lt q rfl).1; have hq2 := (how.lt q rfl).2; have d0 : w1.cell? ⟨q, 0, none⟩ = some (.string ⟨a.toArray⟩) := (by rw [how.cellAt 0 (by omega)]; rfl); have HOW := hide how; clear how hb1)
                  | (go_at_call 22; refine (rkind_any a _).mono ?_; rintro e w2 ⟨he, hb2⟩; rw [HKK.out] at he; subst he; have HI2 := hide (HI1.out.below hb2); have HB2 := hide (HB1.out.trans (hb2.mono HB1.out.size)); have HOW2 := hide (own_below HOW.out hb2); clear hb2)
                  | (go_at_call 23; refine (HLN.out _ q qc HI2.out hq1 HOW2.out).mono ?_; rintro e w4 hpost; rw [HRL.out] at hpost; obtain ⟨sl', rfl, hi4, hb4⟩ := hpost))
                go_ret
                rw [HN.out]
                exact ⟨rfl, HB2.out.trans hb4⟩
              · by_cases c2 : kk = la
                · subst c2
                  have c3 : kk < 3 := by rcases hbad with h | h | h <;> omega
                  go_wp2_with (first
                    | (go_at_call 21; refine (rwords_any seg hs2 _).mono ?_; rintro e w1 ⟨v, rfl, how, hb1⟩; rw [HSPL.out, show (a :: r).length = m from HMR.out] at how; obtain ⟨q, qc, hv⟩ := own_form how (by omega); subst hv; have HI1 := hide (HI.out.below hb1); have HB1 := hide (HB.out.trans (hb1.mono hbs)); have hq1 := (how.lt q rfl).1; have hq2 := (how.lt q rfl).2; have d0 : w1.cell? ⟨q, 0, none⟩ = some (.string ⟨a.toArray⟩) := (by rw [how.cellAt 0 (by omega)]; rfl); have HOW := hide how; clear how hb1)
                    | (go_at_call 22; refine (rkind_any a _).mono ?_; rintro e w2 ⟨he, hb2⟩; rw [HKK.out] at he; subst he; have HI2 := hide (HI1.out.below hb2); have HB2 := hide (HB1.out.trans (hb2.mono HB1.out.size)); have HOW2 := hide (own_below HOW.out hb2); clear hb2)
                    | (go_at_call 23; refine (HLN.out _ q qc HI2.out hq1 HOW2.out).mono ?_; rintro e w4 hpost; rw [HRL.out] at hpost; obtain ⟨sl', rfl, hi4, hb4⟩ := hpost))
                  go_ret
                  rw [HN.out]
                  exact ⟨rfl, HB2.out.trans hb4⟩
                · have c2' : (kk == la) = false := by simp [c2]
                  have c3 : la + 1 < kk := by rcases hbad with h | h | h <;> omega
                  have c4 : la < 2 := by rcases hbad with h | h | h <;> omega
                  go_wp2_with (first
                    | (go_at_call 21; refine (rwords_any seg hs2 _).mono ?_; rintro e w1 ⟨v, rfl, how, hb1⟩; rw [HSPL.out, show (a :: r).length = m from HMR.out] at how; obtain ⟨q, qc, hv⟩ := own_form how (by omega); subst hv; have HI1 := hide (HI.out.below hb1); have HB1 := hide (HB.out.trans (hb1.mono hbs)); have hq1 := (how.lt q rfl).1; have hq2 := (how.lt q rfl).2; have d0 : w1.cell? ⟨q, 0, none⟩ = some (.string ⟨a.toArray⟩) := (by rw [how.cellAt 0 (by omega)]; rfl); have HOW := hide how; clear how hb1)
                    | (go_at_call 22; refine (rkind_any a _).mono ?_; rintro e w2 ⟨he, hb2⟩; rw [HKK.out] at he; subst he; have HI2 := hide (HI1.out.below hb2); have HB2 := hide (HB1.out.trans (hb2.mono HB1.out.size)); have HOW2 := hide (own_below HOW.out hb2); clear hb2)
                    | (go_at_call 23; refine (HLN.out _ q qc HI2.out hq1 HOW2.out).mono ?_; rintro e w4 hpost; rw [HRL.out] at hpost; obtain ⟨sl', rfl, hi4, hb4⟩ := hpost))
                  go_ret
                  rw [HN.out]
                  exact ⟨rfl, HB2.out.trans hb4⟩
            · have HE2 : Hid (rcf .zero (-1) 0 [] x = rcf st' kk (n + 1) ((x.drop (k + 1)).take (k + 1 - (k + 1))) (x.drop (k + 1))) := hide (by rw [hE, if_neg hbad, Nat.sub_self, List.take_zero])
              clear hE
              have c1 : ¬ kk < la := fun h => hbad (.inl h)
              by_cases c2 : kk = la
              · subst c2
                have c3 : ¬ kk < 3 := fun h => hbad (.inr (.inl ⟨rfl, h⟩))
                go_wp2_with (first
                  | (go_at_call 21; refine (rwords_any seg hs2 _).mono ?_; rintro e w1 ⟨v, rfl, how, hb1⟩; rw [HSPL.out, show (a :: r).length = m from HMR.out] at how; obtain ⟨q, qc, hv⟩ := own_form how (by omega); subst hv; have HI1 := hide (HI.out.below hb1); have HB1 := hide (HB.out.trans (hb1.mono hbs)); have hq1 := (how.lt q rfl).1; have hq2 := (how.lt q rfl).2; have d0 : w1.cell? ⟨q, 0, none⟩ = some (.string ⟨a.toArray⟩) := (by rw [how.cellAt 0 (by omega)]; rfl); have HOW := hide how; clear how hb1)
                  | (go_at_call 22; refine (rkind_any a _).mono ?_; rintro e w2 ⟨he, hb2⟩; rw [HKK.out] at he; subst he; have HI2 := hide (HI1.out.below hb2); have HB2 := hide (HB1.out.trans (hb2.mono HB1.out.size)); have HOW2 := hide (own_below HOW.out hb2); clear hb2)
                  | (go_at_call 23; refine (HLN.out _ q qc HI2.out hq1 HOW2.out).mono ?_; rintro e w4 hpost; rw [HRL.out] at hpost; obtain ⟨sl', rfl, hi4, hb4⟩ := hpost))
                go_wp2_with fail
                refine ⟨⟨k + 1, k + 1, n + 1, kk, st', sl', by omega, by omega, by omega, rfl, rfl, rfl, by go_num, by go_num, by go_num, by omega, by omega, HE2, HL2, HZ2, hide hi4, hide (HB2.out.trans hb4)⟩, by simp [intOf]; omega⟩
              · have c2' : (kk == la) = false := by simp [c2]
                by_cases c3 : la + 1 < kk
                · have c4 : ¬ la < 2 := fun h => hbad (.inr (.inr ⟨by omega, h⟩))
                  go_wp2_with (first
                    | (go_at_call 21; refine (rwords_any seg hs2 _).mono ?_; rintro e w1 ⟨v, rfl, how, hb1⟩; rw [HSPL.out, show (a :: r).length = m from HMR.out] at how; obtain ⟨q, qc, hv⟩ := own_form how (by omega); subst hv; have HI1 := hide (HI.out.below hb1); have HB1 := hide (HB.out.trans (hb1.mono hbs)); have hq1 := (how.lt q rfl).1; have hq2 := (how.lt q rfl).2; have d0 : w1.cell? ⟨q, 0, none⟩ = some (.string ⟨a.toArray⟩) := (by rw [how.cellAt 0 (by omega)]; rfl); have HOW := hide how; clear how hb1)
                    | (go_at_call 22; refine (rkind_any a _).mono ?_; rintro e w2 ⟨he, hb2⟩; rw [HKK.out] at he; subst he; have HI2 := hide (HI1.out.below hb2); have HB2 := hide (HB1.out.trans (hb2.mono HB1.out.size)); have HOW2 := hide (own_below HOW.out hb2); clear hb2)
                    | (go_at_call 23; refine (HLN.out _ q qc HI2.out hq1 HOW2.out).mono ?_; rintro e w4 hpost; rw [HRL.out] at hpost; obtain ⟨sl', rfl, hi4, hb4⟩ := hpost))
                  go_wp2_with fail
                  refine ⟨⟨k + 1, k + 1, n + 1, kk, st', sl', by omega, by omega, by omega, rfl, rfl, rfl, by go_num, by go_num, by go_num, by omega, by omega, HE2, HL2, HZ2, hide hi4, hide (HB2.out.trans hb4)⟩, by simp [intOf]; omega⟩
                · go_wp2_with (first
                    | (go_at_call 21; refine (rwords_any seg hs2 _).mono ?_; rintro e w1 ⟨v, rfl, how, hb1⟩; rw [HSPL.out, show (a :: r).length = m from HMR.out] at how; obtain ⟨q, qc, hv⟩ := own_form how (by omega); subst hv; have HI1 := hide (HI.out.below hb1); have HB1 := hide (HB.out.trans (hb1.mono hbs)); have hq1 := (how.lt q rfl).1; have hq2 := (how.lt q rfl).2; have d0 : w1.cell? ⟨q, 0, none⟩ = some (.string ⟨a.toArray⟩) := (by rw [how.cellAt 0 (by omega)]; rfl); have HOW := hide how; clear how hb1)
                    | (go_at_call 22; refine (rkind_any a _).mono ?_; rintro e w2 ⟨he, hb2⟩; rw [HKK.out] at he; subst he; have HI2 := hide (HI1.out.below hb2); have HB2 := hide (HB1.out.trans (hb2.mono HB1.out.size)); have HOW2 := hide (own_below HOW.out hb2); clear hb2)
                    | (go_at_call 23; refine (HLN.out _ q qc HI2.out hq1 HOW2.out).mono ?_; rintro e w4 hpost; rw [HRL.out] at hpost; obtain ⟨sl', rfl, hi4, hb4⟩ := hpost))
                  go_wp2_with fail
                  refine ⟨⟨k + 1, k + 1, n + 1, kk, st', sl', by omega, by omega, by omega, rfl, rfl, rfl, by go_num, by go_num, by go_num, by omega, by omega, HE2, HL2, HZ2, hide hi4, hide (HB2.out.trans hb4)⟩, by simp [intOf]; omega⟩
      · have hb10 : ((ch.toNat : Int) != 10) = true := by
          simp only [bne_iff_ne, ne_eq]
          intro e; exact h10 (UInt8.toNat_inj.1 (by show ch.toNat = 10; omega))
        have HE2 : Hid (rcf .zero (-1) 0 [] x = rcf st la n ((x.drop f).take (k + 1 - f)) (x.drop (k + 1))) := hide (by rw [hE, rcf_byte _ _ _ _ _ _ h10, seg_on x f k hf hlt, hchx])
        clear hE hd HE hchx h10
        go_wp2_with fail
        refine ⟨⟨k + 1, f, n, la, st, sl, by omega, by omega, by omega, rfl, rfl, rfl, rfl, rfl, by go_num, hla1, hla2, HE2, HL, HZ, HI, HB⟩, by simp [intOf]; omega⟩
    · have b1 : (x.length : Int) ≤ (k : Int) := by omega
      have hdk : x.drop k = [] := List.drop_of_length_le (by omega)
      have hnone : rcf .zero (-1) 0 [] x = none := by rw [HE.out, hdk]; exact rcf_end _ _ _ _
      have HN : Hid (Arc.rread (short kTab) x = none) := hide (by rw [HR.out, hnone])
      clear hnone
      go_wp2_with fail
      go_ret
      rw [HN.out]
      exact ⟨rfl, HB.out⟩
end Go.Proofs.YtgdmgmklncmanaaGreatDoor
