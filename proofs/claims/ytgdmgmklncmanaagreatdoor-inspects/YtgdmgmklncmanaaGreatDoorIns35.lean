/- Of Ins: LineW2, BodyW1. -/
import Derived.Test.YtgdmgmklncmanaaGreatDoorIns34
import Derived.Test.YtgdmgmklncmanaaGreatDoorIns18
/- The walk over a line, the program's own, whole. -/
namespace Go.Proofs.YtgdmgmklncmanaaGreatDoor
open Go.RowKit
open Arc (St Cmd S)

def PFits (st : St) : Prop := st.needs.length ≤ 2000 ∧ st.breaks.length ≤ 2000 ∧ st.wakes.length ≤ 2000 ∧ st.files.length ≤ 2000 ∧ st.runs.length ≤ 2000 ∧ st.wokens.length ≤ 2000 ∧ st.left.length ≤ 2000
theorem pl_no {pb : Nat} {nm ve : S} {w : World} {f : FuncId} {args : Array Value} {o : Option St} (ho : o = none) (hc : Calls Tryz.prog f args w fun e w' => e = .returned (.bool false) ∧ Below pb w w') : Calls Tryz.prog f args w (PlPost pb nm ve o w) := by
  subst ho; exact hc

theorem pline_is (f : S → S) (st : St) (k : Int) (rest : List S) : Arc.pline f st k rest = (if k = 1 then match rest with
    | [n] => if Wd.isName n then some { st with needs := st.needs ++ [(n, [])] } else none
    | [n, v] => if Ver.fine v && Wd.isName n then some { st with needs := st.needs ++ [(n, v)] } else none
    | _ => none
  else if k = 2 then match rest with
    | [n] => if Wd.isName n then some { st with breaks := st.breaks ++ [n] } else none
    | _ => none
  else if k = 3 then match rest with
    | [p] => if Wd.isPath p then some { st with wakes := st.wakes ++ [p] } else none
    | _ => none
  else if k = 4 then match rest with
    | [p, z, h] =>
      if 0 ≤ sz z ∧ sz z ≤ st.left.length ∧ Wd.isPath p = true ∧ Wd.under p = false ∧ (st.files.any fun f => f.1 == p) = false ∧ f (st.left.take (sz z).toNat) = h then
        some { st with files := st.files ++ [(p, st.left.take (sz z).toNat)], left := st.left.drop (sz z).toNat } else none
    | _ => none
  else if k = 5 then if (Arc.pcmd rest).2 = true ∧ (Arc.pcmd rest).1.verb ≠ 5 then some { st with runs := st.runs ++ [(Arc.pcmd rest).1] } else none
  else if k = 6 then if (Arc.pcmd rest).2 = true then some { st with wokens := st.wokens ++ [(Arc.pcmd rest).1] } else none
  else none) := rfl
set_option maxHeartbeats 400000 in
theorem line_any (pb q o c : Nat) (nm ve : S) (st : St) (sl : Fin 6 → Value) (k : Int) (hk : 1 ≤ k ∧ k ≤ 6) (rest : List S) (hw : ∀ x ∈ rest, x.length ≤ 2000) (hn : rest.length ≤ 2001) (K : Nat → Int) (mx : Int) (hf : PFits st) (w : World) (h : PIn pb nm ve st sl w) (hp0 : 9 ≤ pb) (ha : Apart pb q sl w)
    (hm : w.cell? ⟨0, 0, none⟩ = some (.int .i64 mx)) (hK : ∀ i : Nat, i < 64 → w.cell? ⟨3, i, none⟩ = some (.int .u32 (K i)))
    (hc : ∀ j y, rest[j]? = some y → w.cell? ⟨q, o + j, none⟩ = some (.string ⟨y.toArray⟩)) :
    Calls Tryz.prog 71 #[.pointer (some ⟨pb, 0, none⟩), .int .i64 k, .slice (some ⟨q, o, none⟩) rest.length c] w (PlPost pb nm ve (Arc.pline (short K) st k rest) w) := by
  obtain ⟨f1, f2, f3, f4, f5, f6, f7⟩ := hf
  have hq := ha.lt
  rw [pline_is]
  rcases (show k = 1 ∨ k = 2 ∨ k = 3 ∨ k = 4 ∨ k = 5 ∨ k = 6 from by omega) with rfl | rfl | rfl | rfl | rfl | rfl
  · rw [if_pos rfl]
    match rest, hc, hw with
    | [y], hc, hw => exact pl_to (ok := Wd.isName y) rfl (line_by pb q o 1 c w _ _ 1 _ (.inl ⟨rfl, rfl⟩) (needs_one pb q o c nm ve st sl y (hw y (by simp)) f1 w h hq (hc 0 y rfl)))
    | [y, v], hc, hw =>
      cases hv : Ver.fine v with
      | false => exact pl_no (by simp [hv]) ((line_by pb q o 2 c w _ _ 1 _ (.inl ⟨rfl, rfl⟩) (needs_old pb q o c v hv y w hq (hc 0 y rfl) (hc 1 v rfl))).mono fun _ _ ⟨he, hb⟩ => ⟨he, hb.mono (Nat.le_of_lt h.lt)⟩)
      | true => exact pl_to (ok := Wd.isName y) (by simp [hv]) (line_by pb q o 2 c w _ _ 1 _ (.inl ⟨rfl, rfl⟩) (needs_two pb q o c nm ve st sl y v (hw y (by simp)) hv f1 w h hq (hc 0 y rfl) (hc 1 v rfl)))
    | [], _, _ => exact pl_not h (line_by pb q o 0 c w _ _ 1 _ (.inl ⟨rfl, rfl⟩) (needs_count pb q o 0 c (by simp) (by simp) w))
    | a :: b :: d :: l, _, _ => exact pl_not h (line_by pb q o _ c w _ _ 1 _ (.inl ⟨rfl, rfl⟩) (needs_count pb q o _ c (by simp) (by simp) w))
  · rw [if_neg (by decide), if_pos rfl]
    match rest, hc, hw, hn with
    | [y], hc, hw, _ => exact pl_to (ok := Wd.isName y) rfl (line_breaks pb q o c nm ve st sl y (hw y (by simp)) f2 w h ha (hc 0 y rfl))
    | [], hc, _, hn => exact pl_no rfl (line_breaks_count pb q o _ c nm ve st sl [] rfl (by simp) hn f2 w h hc)
    | a :: b :: l, hc, _, hn => exact pl_no rfl (line_breaks_count pb q o _ c nm ve st sl (a :: b :: l) rfl (by simp) hn f2 w h hc)
  · rw [if_neg (by decide), if_neg (by decide), if_pos rfl]
    match rest, hc, hw, hn with
    | [y], hc, hw, _ => exact pl_to (ok := Wd.isPath y) rfl (line_wakes pb q o c nm ve st sl y (hw y (by simp)) f3 mx w h ha hp0 hm (hc 0 y rfl))
    | [], hc, _, hn => exact pl_no rfl (line_wakes_count pb q o _ c nm ve st sl [] rfl (by simp) hn f3 w h hc)
    | a :: b :: l, hc, _, hn => exact pl_no rfl (line_wakes_count pb q o _ c nm ve st sl (a :: b :: l) rfl (by simp) hn f3 w h hc)
  · rw [if_neg (by decide), if_neg (by decide), if_neg (by decide), if_pos rfl]
    match rest, hc, hw with
    | [p, z, hh], hc, hw =>
      have hp := hw p (by simp)
      have hz := hw z (by simp)
      have c0 := hc 0 p rfl
      have c1 := hc 1 z rfl
      have c2 := hc 2 hh rfl
      have no : Calls Tryz.prog 94 #[.pointer (some ⟨pb, 0, none⟩), .slice (some ⟨q, o, none⟩) 3 c] w (fun e w' => e = .returned (.bool false) ∧ Below w.heap.size w w') → ¬ (0 ≤ sz z ∧ sz z ≤ st.left.length ∧ Wd.isPath p = true ∧ Wd.under p = false ∧ (st.files.any fun f => f.1 == p) = false) →
          Calls Tryz.prog 71 #[.pointer (some ⟨pb, 0, none⟩), .int .i64 4, .slice (some ⟨q, o, none⟩) 3 c] w (PlPost pb nm ve (if 0 ≤ sz z ∧ sz z ≤ st.left.length ∧ Wd.isPath p = true ∧ Wd.under p = false ∧ (st.files.any fun f => f.1 == p) = false ∧ short K (st.left.take (sz z).toNat) = hh then
            some { st with files := st.files ++ [(p, st.left.take (sz z).toNat)], left := st.left.drop (sz z).toNat } else none) w) := fun hcl hnc =>
        pl_no (if_neg fun hh => hnc ⟨hh.1, hh.2.1, hh.2.2.1, hh.2.2.2.1, hh.2.2.2.2.1⟩) ((line_by pb q o 3 c w _ _ 4 _ (.inr ⟨rfl, rfl⟩) hcl).mono fun _ _ ⟨he, hb⟩ => ⟨he, hb.mono (Nat.le_of_lt h.lt)⟩)
      by_cases g1 : sz z < 0
      · exact no (file_size pb q o c nm ve st sl p z hh w h hz g1 c0 c1 c2) (fun x => by omega)
      · obtain ⟨n, hsz⟩ : ∃ n : Nat, sz z = (n : Int) := ⟨(sz z).toNat, by omega⟩
        by_cases g2 : n ≤ st.left.length
        · cases g3 : Wd.isPath p with
          | false => exact no (file_path pb q o c nm ve st sl p z hh mx w h hp0 hp hz n hsz g2 g3 hm c0 c1 c2) (fun x => by rw [g3] at x; exact absurd x.2.2.1 (by decide))
          | true => cases g4 : Wd.under p with
            | true => exact no (file_under pb q o c nm ve st sl p z hh mx w h hp0 hp hz n hsz g2 g3 g4 hm c0 c1 c2) (fun x => by rw [g4] at x; exact absurd x.2.2.2.1 (by decide))
            | false => cases g5 : (st.files.any fun f => f.1 == p) with
              | true => exact no (file_has pb q o c nm ve st sl p z hh mx w h hp0 f4 hp hz n hsz g2 g3 g4 g5 hm c0 c1 c2) (fun x => by rw [g5] at x; exact absurd x.2.2.2.2 (by decide))
              | false =>
                refine pl_to (ok := short K (st.left.take n) == hh) (st' := { st with files := st.files ++ [(p, st.left.take n)], left := st.left.drop n }) ?_ (line_by pb q o 3 c w _ _ 4 _ (.inr ⟨rfl, rfl⟩) (file_any pb q o c nm ve st sl p z hh mx K w h hp0 f4 hp hz f7 n hsz g2 g3 g4 g5 hm hK c0 c1 c2))
                have e : (sz z).toNat = n := by omega
                simp only [e, g3, g4, g5, true_and, beq_iff_eq]
                by_cases g6 : short K (st.left.take n) = hh
                · rw [if_pos ⟨by omega, by omega, g6⟩, if_pos g6]
                · rw [if_neg (fun x => g6 x.2.2), if_neg g6]
        · exact no (file_long pb q o c nm ve st sl p z hh w h hz n hsz (by omega) c0 c1 c2) (fun x => by omega)
    | [], _, _ => exact pl_not h (line_by pb q o 0 c w _ _ 4 _ (.inr ⟨rfl, rfl⟩) (file_count pb q o 0 c (by simp) w))
    | [_], _, _ => exact pl_not h (line_by pb q o 1 c w _ _ 4 _ (.inr ⟨rfl, rfl⟩) (file_count pb q o 1 c (by simp) w))
    | [_, _], _, _ => exact pl_not h (line_by pb q o 2 c w _ _ 4 _ (.inr ⟨rfl, rfl⟩) (file_count pb q o 2 c (by simp) w))
    | a :: b :: d :: e :: l, _, _ => exact pl_not h (line_by pb q o _ c w _ _ 4 _ (.inr ⟨rfl, rfl⟩) (file_count pb q o _ c (by simp) w))
  · rw [if_neg (by decide), if_neg (by decide), if_neg (by decide), if_neg (by decide), if_pos rfl]
    rcases hrc : Arc.pcmd rest with ⟨⟨vv, v1, v2, v3⟩, ok⟩
    cases ok with
    | false => exact pl_to (ok := false) (by simp) (line_runs_no pb q o _ c nm ve st sl rest hw rfl vv v1 v2 v3 hrc f5 mx w h hq hm hc)
    | true => exact pl_to (ok := vv != 5) (by simp) (line_runs_yes pb q o _ c nm ve st sl rest hw rfl vv v1 v2 v3 hrc f5 mx w h hq hm hc)
  · rw [if_neg (by decide), if_neg (by decide), if_neg (by decide), if_neg (by decide), if_neg (by decide), if_pos rfl]
    rcases hrc : Arc.pcmd rest with ⟨⟨vv, v1, v2, v3⟩, ok⟩
    exact pl_to (ok := ok) rfl (line_wokens pb q o _ c nm ve st sl rest hw rfl vv v1 v2 v3 ok hrc f6 mx w h hq hm hc)
end Go.Proofs.YtgdmgmklncmanaaGreatDoor
/- The walk over the lines behind the first three: every way. -/
namespace Go.Proofs.YtgdmgmklncmanaaGreatDoor
open Go.RowKit
open Arc (St Cmd S)

def PLe (st : St) (n : Nat) : Prop := st.needs.length ≤ n ∧ st.breaks.length ≤ n ∧ st.wakes.length ≤ n ∧ st.files.length ≤ n ∧ st.runs.length ≤ n ∧ st.wokens.length ≤ n ∧ st.left.length ≤ 2000
theorem pline_le {f : S → S} {st st' : St} {k : Int} {rest : List S} {n : Nat} (hyp : Arc.pline f st k rest = some st') (hl : PLe st n) : PLe st' (n + 1) := by
  obtain ⟨h1, h2, h3, h4, h5, h6, h7⟩ := hl
  rw [pline_is] at hyp
  repeat' split at hyp
  all_goals first
    | (cases hyp; done)
    | (cases hyp; refine ⟨?_, ?_, ?_, ?_, ?_, ?_, ?_⟩ <;> simp <;> omega)
theorem PLe.fits {st : St} {n : Nat} (h : PLe st n) (hn : n ≤ 2000) : PFits st := by
  obtain ⟨h1, h2, h3, h4, h5, h6, h7⟩ := h
  exact ⟨by omega, by omega, by omega, by omega, by omega, by omega, h7⟩
theorem sp_head (x : S) : ∃ a r, sp 32 x = a :: r := by
  cases h : sp 32 x with
  | nil => exact absurd h (sp_ne 32 x)
  | cons a r => exact ⟨a, r, rfl⟩
theorem pbody_cons (f : S → S) (st : St) (la : Int) (x a : S) (r : List S) (h : sp 32 x = a :: r) (l : List S) : Arc.pbody f st la (x :: l) = if kd a = 0 ∨ kd a < la then none else match Arc.pline f st (kd a) r with
    | none => none
    | some st' => Arc.pbody f st' (kd a) l := by
  rw [Arc.pbody, h]; rfl

set_option maxRecDepth 100000 in
set_option maxHeartbeats 1000000 in
theorem body_any (pb lg lo lc : Nat) (nm ve : S) (st0 : St) (L : List S) (K : Nat → Int) (mx : Int) (sl : Fin 6 → Value) (w : World) (h : PIn pb nm ve st0 sl w) (h0 : PLe st0 0) (hp0 : 9 ≤ pb) (hlg : lg < pb) (hL : L.length ≤ 21) (hll : ∀ x ∈ L, x.length ≤ 2000)
    (hm : w.cell? ⟨0, 0, none⟩ = some (.int .i64 mx)) (hK : ∀ i : Nat, i < 64 → w.cell? ⟨3, i, none⟩ = some (.int .u32 (K i)))
    (hc : ∀ k, k < L.length → w.cell? ⟨lg, lo + k, none⟩ = some (strV (L.getD k []))) :
    Calls Tryz.prog 43 #[.pointer (some ⟨pb, 0, none⟩), .slice (some ⟨lg, lo, none⟩) L.length lc] w (PlPost pb nm ve (Arc.pbody (short K) st0 0 L) w) := by
  have H := hide h; have HM := hide hm; have HK := hide hK; have HC := hide hc; have HLL := hide hll; have H0 := hide h0
  have hlt := h.lt
  clear h hm hK hc hll h0
  go_enter Tryz.func43, Tryz.ntmps43
  go_wp2_with fail
  go_loopw [5, 12] (fun l i wr => ∃ (k : Nat) (st : St) (la : Int) (sl : Fin 6 → Value), k ≤ L.length ∧ i = .int .i64 k ∧ l = .int .i64 la ∧ Hid (Arc.pbody (short K) st0 0 L = Arc.pbody (short K) st la (L.drop k)) ∧ Hid (PLe st k) ∧ Hid (PIn pb nm ve st sl wr) ∧ Hid (Below pb w wr))
    (fun _ i _ => L.length - (intOf i).toNat)
  case atStart => exact ⟨0, st0, 0, sl, Nat.zero_le _, rfl, rfl, hide rfl, H0, H, hide (Below.refl _ _)⟩
  case round =>
    clear H H0
    obtain ⟨k, st, la, sl, hk, rfl, rfl, HE, HL, HP, HB⟩ := hrel
    by_cases hlt2 : k < L.length
    · have b1 : (k : Int) < (L.length : Int) := by omega
      have hcell := (HB.out.cell (p := ⟨lg, lo + k, none⟩) hlg).trans (HC.out k hlt2)
      obtain ⟨x, hx⟩ : ∃ x, L.getD k [] = x := ⟨_, rfl⟩
      have hxl : x.length ≤ 2000 := by
        rw [← hx, List.getD, List.getElem?_eq_getElem hlt2]; exact HLL.out _ (List.getElem_mem hlt2)
      rw [hx] at hcell
      have hcell' : wr.cell? ⟨lg, lo + k, none⟩ = some (.string ⟨x.toArray⟩) := hcell
      have hdrop : L.drop k = x :: L.drop (k + 1) := by rw [List.drop_eq_getElem_cons hlt2, ← hx]; simp [List.getD, List.getElem?_eq_getElem hlt2]
      obtain ⟨a, r, har⟩ := sp_head x
      have hE := HE.out
      rw [hdrop, pbody_cons (short K) st la x a r har] at hE
      obtain ⟨z, hz⟩ : ∃ z, kd a = z := ⟨_, rfl⟩
      rw [hz] at hE
      obtain ⟨n, hn⟩ : ∃ n, (sp 32 x).length = n := ⟨_, rfl⟩
      have hnr : r.length + 1 = n := by rw [← hn, har]; rfl
      have hn2 : n ≤ 2001 := by have := sp_len 32 x; omega
      have hwr : ∀ y ∈ r, y.length ≤ 2000 := fun y hy => by have := sp_le 32 x y (by rw [har]; simp [hy]); omega
      have hzb := Arc.kd_bd a
      rw [hz] at hzb
      have HZ := hide hz; have HN := hide hn; have HAR := hide har; have HNR := hide hnr; have HWR := hide hwr
      have hbs := HB.out.size
      have HM2 : Hid (wr.cell? ⟨0, 0, none⟩ = some (.int .i64 mx)) := hide ((HB.out.cell (p := ⟨0, 0, none⟩) (by show 0 < pb; omega)).trans HM.out)
      have HK2 : Hid (∀ i : Nat, i < 64 → wr.cell? ⟨3, i, none⟩ = some (.int .u32 (K i))) := hide fun i hi => (HB.out.cell (p := ⟨3, i, none⟩) (by show 3 < pb; omega)).trans (HK.out i hi)
      have hn0 : (0 : Int) < (n : Int) := by omega
      clear hx hz hn hcell har hdrop hnr hwr HE
      by_cases g1 : z = 0
      · have HE2 := hide (hE.trans (if_pos (.inl g1)))
        clear hE
        subst g1
        go_wp2_with (first
          | (go_at_call 41; refine (split_any 32 x hxl mx _ HM2.out).mono ?_; rintro e w1 ⟨he, hw1⟩; rw [HN.out] at he; subst he; have HQ := hide (parts_cells hw1); have q0 : w1.cell? ⟨wr.heap.size, 0, none⟩ = some (.string ⟨a.toArray⟩) := (HQ.out 0 (by rw [HN.out]; omega)).trans (by rw [HAR.out]; rfl); have HB1 := hide (split_below hw1); clear hw1)
          | (go_at_call 70; refine (kindOf_any a _).mono ?_; rintro e w2 ⟨he, rfl⟩; rw [HZ.out] at he; subst he))
        go_ret
        rw [HE2.out]
        exact ⟨rfl, HB.out.trans (HB1.out.1.mono (Nat.le_of_lt HP.out.lt))⟩
      · by_cases g2 : z < la
        · have HE2 := hide (hE.trans (if_pos (.inr g2)))
          clear hE
          have z0 : (z == 0) = false := by simp [g1]
          go_wp2_with (first
            | (go_at_call 41; refine (split_any 32 x hxl mx _ HM2.out).mono ?_; rintro e w1 ⟨he, hw1⟩; rw [HN.out] at he; subst he; have HQ := hide (parts_cells hw1); have q0 : w1.cell? ⟨wr.heap.size, 0, none⟩ = some (.string ⟨a.toArray⟩) := (HQ.out 0 (by rw [HN.out]; omega)).trans (by rw [HAR.out]; rfl); have HB1 := hide (split_below hw1); clear hw1)
            | (go_at_call 70; refine (kindOf_any a _).mono ?_; rintro e w2 ⟨he, rfl⟩; rw [HZ.out] at he; subst he))
          go_ret
          rw [HE2.out]
          exact ⟨rfl, HB.out.trans (HB1.out.1.mono (Nat.le_of_lt HP.out.lt))⟩
        · have hE2 := hE.trans (if_neg (by omega))
          clear hE
          have z0 : (z == 0) = false := by simp [g1]
          obtain ⟨o, ho⟩ : ∃ o, (if n = 1 then 0 else 1) = o := ⟨_, rfl⟩
          have HO := hide ho
          have HLN : Hid (∀ (w1 : World), PIn pb nm ve st sl w1 → Below pb wr w1 → Below wr.heap.size wr w1 → w1.heap.size = wr.heap.size + 1 → (∀ j, j < (sp 32 x).length → w1.cell? ⟨wr.heap.size, j, none⟩ = some (strV ((sp 32 x).getD j []))) →
              Calls Tryz.prog 71 #[.pointer (some ⟨pb, 0, none⟩), .int .i64 z, .slice (some ⟨wr.heap.size, o, none⟩) (n - 1) (n - 1)] w1 (PlPost pb nm ve (Arc.pline (short K) st z r) w1)) := hide (by
            intro w1 hp hb hb2 hs hq
            have hrl : n - 1 = r.length := by have := HNR.out; omega
            have hpl := HP.out.lt
            have hcr : ∀ j y, r[j]? = some y → w1.cell? ⟨wr.heap.size, o + j, none⟩ = some (.string ⟨y.toArray⟩) := by
              intro j y hy
              have hjr := (List.getElem?_eq_some_iff.1 hy).1
              have ho1 : o = 1 := by rw [← ho, if_neg (by have := HNR.out; omega)]
              have := hq (j + 1) (by rw [HAR.out]; simp; omega)
              rw [HAR.out] at this
              rw [ho1, Nat.add_comm 1 j, this]
              simp [List.getD, hy, strV]
            have := line_any pb wr.heap.size o (n - 1) nm ve st sl z (by omega) r HWR.out (by have := HNR.out; omega) K mx (HL.out.fits (by omega)) w1 hp hp0 ⟨by omega, by omega, fun i e => by have := ((HP.out.own i).lt _ e).2; omega⟩
              ((hb.cell (p := ⟨0, 0, none⟩) (by show 0 < pb; omega)).trans HM2.out) (fun i hi => (hb.cell (p := ⟨3, i, none⟩) (by show 3 < pb; omega)).trans (HK2.out i hi)) hcr
            rwa [← hrl] at this)
          clear ho
          cases hpl : Arc.pline (short K) st z r with
          | none =>
            rw [hpl] at hE2
            have HE2 := hide hE2
            have HPL := hide hpl
            clear hE2 hpl
            by_cases hn1 : n = 1
            · obtain rfl : o = 0 := by rw [← HO.out, if_pos hn1]
              subst hn1
              go_wp2_with (first
                | (go_at_call 41; refine (split_any 32 x hxl mx _ HM2.out).mono ?_; rintro e w1 ⟨he, hw1⟩; rw [HN.out] at he; subst he; have HQ := hide (parts_cells hw1); have q0 : w1.cell? ⟨wr.heap.size, 0, none⟩ = some (.string ⟨a.toArray⟩) := (HQ.out 0 (by rw [HN.out]; omega)).trans (by rw [HAR.out]; rfl); have HB1 := hide (split_below hw1); clear hw1)
                | (go_at_call 70; refine (kindOf_any a _).mono ?_; rintro e w2 ⟨he, rfl⟩; rw [HZ.out] at he; subst he)
                | (go_at_call 71; refine (HLN.out _ (HP.out.below HB1.out.1) (HB1.out.1.mono (Nat.le_of_lt HP.out.lt)) HB1.out.1 HB1.out.2 HQ.out).mono ?_; rintro e w3 hpost; rw [HPL.out] at hpost; obtain ⟨rfl, hb3⟩ := hpost))
              go_ret
              rw [HE2.out]
              exact ⟨rfl, (HB.out.trans (HB1.out.1.mono (Nat.le_of_lt HP.out.lt))).trans hb3⟩
            · obtain rfl : o = 1 := by rw [← HO.out, if_neg hn1]
              go_wp2_with (first
                | (go_at_call 41; refine (split_any 32 x hxl mx _ HM2.out).mono ?_; rintro e w1 ⟨he, hw1⟩; rw [HN.out] at he; subst he; have HQ := hide (parts_cells hw1); have q0 : w1.cell? ⟨wr.heap.size, 0, none⟩ = some (.string ⟨a.toArray⟩) := (HQ.out 0 (by rw [HN.out]; omega)).trans (by rw [HAR.out]; rfl); have HB1 := hide (split_below hw1); clear hw1)
                | (go_at_call 70; refine (kindOf_any a _).mono ?_; rintro e w2 ⟨he, rfl⟩; rw [HZ.out] at he; subst he)
                | (go_at_call 71; refine (HLN.out _ (HP.out.below HB1.out.1) (HB1.out.1.mono (Nat.le_of_lt HP.out.lt)) HB1.out.1 HB1.out.2 HQ.out).mono ?_; rintro e w3 hpost; rw [HPL.out] at hpost; obtain ⟨rfl, hb3⟩ := hpost))
              go_ret
              rw [HE2.out]
              exact ⟨rfl, (HB.out.trans (HB1.out.1.mono (Nat.le_of_lt HP.out.lt))).trans hb3⟩
          | some st' =>
            rw [hpl] at hE2
            have HE2 := hide hE2
            have HPL := hide hpl
            have HL2 := hide (pline_le hpl HL.out)
            clear hE2 hpl
            by_cases hn1 : n = 1
            · obtain rfl : o = 0 := by rw [← HO.out, if_pos hn1]
              subst hn1
              go_wp2_with (first
                | (go_at_call 41; refine (split_any 32 x hxl mx _ HM2.out).mono ?_; rintro e w1 ⟨he, hw1⟩; rw [HN.out] at he; subst he; have HQ := hide (parts_cells hw1); have q0 : w1.cell? ⟨wr.heap.size, 0, none⟩ = some (.string ⟨a.toArray⟩) := (HQ.out 0 (by rw [HN.out]; omega)).trans (by rw [HAR.out]; rfl); have HB1 := hide (split_below hw1); clear hw1)
                | (go_at_call 70; refine (kindOf_any a _).mono ?_; rintro e w2 ⟨he, rfl⟩; rw [HZ.out] at he; subst he)
                | (go_at_call 71; refine (HLN.out _ (HP.out.below HB1.out.1) (HB1.out.1.mono (Nat.le_of_lt HP.out.lt)) HB1.out.1 HB1.out.2 HQ.out).mono ?_; rintro e w3 hpost; rw [HPL.out] at hpost; obtain ⟨rfl, sl3, hp3, hb3⟩ := hpost))
              go_roundw
              case rel => exact ⟨k + 1, st', z, sl3, by omega, by go_num, rfl, HE2, HL2, hide hp3, hide ((HB.out.trans (HB1.out.1.mono (Nat.le_of_lt HP.out.lt))).trans hb3)⟩
              case measure => simp [intOf]; omega
            · obtain rfl : o = 1 := by rw [← HO.out, if_neg hn1]
              go_wp2_with (first
                | (go_at_call 41; refine (split_any 32 x hxl mx _ HM2.out).mono ?_; rintro e w1 ⟨he, hw1⟩; rw [HN.out] at he; subst he; have HQ := hide (parts_cells hw1); have q0 : w1.cell? ⟨wr.heap.size, 0, none⟩ = some (.string ⟨a.toArray⟩) := (HQ.out 0 (by rw [HN.out]; omega)).trans (by rw [HAR.out]; rfl); have HB1 := hide (split_below hw1); clear hw1)
                | (go_at_call 70; refine (kindOf_any a _).mono ?_; rintro e w2 ⟨he, rfl⟩; rw [HZ.out] at he; subst he)
                | (go_at_call 71; refine (HLN.out _ (HP.out.below HB1.out.1) (HB1.out.1.mono (Nat.le_of_lt HP.out.lt)) HB1.out.1 HB1.out.2 HQ.out).mono ?_; rintro e w3 hpost; rw [HPL.out] at hpost; obtain ⟨rfl, sl3, hp3, hb3⟩ := hpost))
              go_roundw
              case rel => exact ⟨k + 1, st', z, sl3, by omega, by go_num, rfl, HE2, HL2, hide hp3, hide ((HB.out.trans (HB1.out.1.mono (Nat.le_of_lt HP.out.lt))).trans hb3)⟩
              case measure => simp [intOf]; omega
    · obtain rfl : k = L.length := by omega
      have HE2 : Hid (Arc.pbody (short K) st0 0 L = some st) := hide (by rw [HE.out, List.drop_length]; rfl)
      go_wp2_with fail
      go_ret
      rw [HE2.out]
      exact ⟨rfl, sl, HP.out, HB.out⟩
end Go.Proofs.YtgdmgmklncmanaaGreatDoor
