/- Of Ins: RlW6, HsW4. -/
import Derived.Test.YtgdmgmklncmanaaGreatDoorIns25
import Derived.Test.YtgdmgmklncmanaaGreatDoorIns26
import Derived.Test.YtgdmgmklncmanaaGreatDoorIns24
import Derived.Test.YtgdmgmklncmanaaGreatDoorIns14
/- The walk over a line, the document's own answer, whole. -/
namespace Go.Proofs.YtgdmgmklncmanaaGreatDoor
open Go.RowKit
open Arc (RSt RCmd S)

/-- What a line leaves. -/
def RlPost (ab : Nat) (tx : S) (o : Option RSt) (w : World) : Ending → World → Prop := fun e w' => match o with
  | none => (∃ a b, e = .returned (.tuple #[a, b, .bool false])) ∧ Below ab w w'
  | some st' => ∃ sl' : Fin 8 → Value, e = .returned (.tuple #[sl' 6, sl' 7, .bool true]) ∧ RIn ab tx st' sl' w' ∧ Below ab w w'
theorem rl_to {ab : Nat} {tx : S} {st' : RSt} {sl : Fin 8 → Value} {ok : Bool} {w : World} {f : FuncId} {args : Array Value} {o : Option RSt} (ho : o = if ok = true then some st' else none)
    (hc : Calls Tryz.prog f args w fun e w' => e = .returned (.tuple #[sl 6, sl 7, .bool ok]) ∧ (∃ sl', RIn ab tx st' sl' w' ∧ sl' 6 = sl 6 ∧ sl' 7 = sl 7) ∧ Below ab w w') : Calls Tryz.prog f args w (RlPost ab tx o w) := by
  refine hc.mono fun e w' ⟨he, ⟨sl', h1, h2, h3⟩, hb⟩ => ?_
  subst ho
  cases ok with
  | false => exact ⟨⟨_, _, he⟩, hb⟩
  | true => exact ⟨sl', by rw [h2, h3]; exact he, h1, hb⟩
theorem rl_to2 {ab : Nat} {tx : S} {st' : RSt} {sl : Fin 8 → Value} {ok : Bool} {w : World} {f : FuncId} {args : Array Value} {o : Option RSt} (ho : o = if ok = true then some st' else none)
    (hc : Calls Tryz.prog f args w fun e w' => e = .returned (.tuple #[sl 6, sl 7, .bool ok]) ∧ (ok = true → RIn ab tx st' sl w') ∧ Below ab w w') : Calls Tryz.prog f args w (RlPost ab tx o w) := by
  refine hc.mono fun e w' ⟨he, h1, hb⟩ => ?_
  subst ho
  cases ok with
  | false => exact ⟨⟨_, _, he⟩, hb⟩
  | true => exact ⟨sl, he, h1 rfl, hb⟩
theorem rl_not {ab : Nat} {tx : S} {st : RSt} {sl : Fin 8 → Value} {w : World} {f : FuncId} {args : Array Value} {a b : Value} (h : RIn ab tx st sl w)
    (hc : Calls Tryz.prog f args w fun e w' => e = .returned (.tuple #[a, b, .bool false]) ∧ Below w.heap.size w w') : Calls Tryz.prog f args w (RlPost ab tx none w) :=
  hc.mono fun _ _ ⟨he, hb⟩ => ⟨⟨_, _, he⟩, hb.mono (Nat.le_of_lt h.lt)⟩
/-- The bounds that a reading keeps. -/
def RFits (st : RSt) : Prop := st.needs.length ≤ 2000 ∧ st.breaks.length ≤ 2000 ∧ st.wakes.length ≤ 2000 ∧ st.files.length ≤ 2000 ∧ st.runs.length ≤ 2000 ∧ st.wokens.length ≤ 2000

theorem rkd_rng (x : S) : rkd x = -1 ∨ rkd x = 0 ∨ rkd x = 1 ∨ rkd x = 2 ∨ rkd x = 3 ∨ rkd x = 4 ∨ rkd x = 5 ∨ rkd x = 6 ∨ rkd x = 7 ∨ rkd x = 8 := by
  have := Arc.kd_bd x
  rcases Arc.rkd_cases x with ⟨h, -, -⟩ | ⟨h, -, -⟩ | ⟨h, -, -⟩ | ⟨h, -⟩ | ⟨h, h'⟩ <;> omega
theorem rline_cons (st : RSt) (x : S) (r : List S) : Arc.rline st (x :: r) = (if rkd x = 0 then (if r = [[49]] then some st else none)
  else if rkd x = 1 then match r with
    | [n] => if Wd.isName n then some { st with name := n } else none
    | _ => none
  else if rkd x = 2 then match r with
    | [v] => if Ver.fine v then some { st with version := v } else none
    | _ => none
  else if rkd x = 3 then match r with
    | [n] => if Wd.isName n then some { st with needs := st.needs ++ [(n, [])] } else none
    | [n, v] => if Wd.isName n && Ver.fine v then some { st with needs := st.needs ++ [(n, v)] } else none
    | _ => none
  else if rkd x = 4 then match r with
    | [n] => if Wd.isName n then some { st with breaks := st.breaks ++ [n] } else none
    | _ => none
  else if rkd x = 5 then match r with
    | [p] => if Wd.isPath p then some { st with wakes := st.wakes ++ [p] } else none
    | _ => none
  else if rkd x = 6 then match r with
    | [p, z, h] => if Wd.isPath p = true ∧ Wd.under p = false ∧ 0 ≤ sz z ∧ (st.files.any fun f => f.1 == p) = false then some { st with files := st.files ++ [(p, sz z, h)] } else none
    | _ => none
  else if rkd x = 7 then (if (Arc.rcmd false r).2 = true then some { st with runs := st.runs ++ [(Arc.rcmd false r).1] } else none)
  else if rkd x = 8 then (if (Arc.rcmd true r).2 = true then some { st with wokens := st.wokens ++ [(Arc.rcmd true r).1] } else none)
  else none) := rfl
theorem any_all (F : List (S × Int × S)) (p : S) : (F.all fun f => f.1 != p) = !(F.any fun f => f.1 == p) := by
  induction F with
  | nil => rfl
  | cons a l ih => simp only [List.all_cons, List.any_cons, ih]; cases h : (a.1 == p) <;> simp [bne, h]

theorem rl_any (ab q c : Nat) (tx : S) (st : RSt) (sl : Fin 8 → Value) (x : S) (r : List S) (hw : ∀ y ∈ x :: r, y.length ≤ 2000) (hf : RFits st) (hnc : r.length + 1 ≤ c) (w : World) (h : RIn ab tx st sl w) (ho : Off ab q sl w) (hc : Words q (x :: r) w) :
    Calls Tryz.prog 23 #[.pointer (some ⟨ab, 0, none⟩), .slice (some ⟨q, 0, none⟩) (r.length + 1) c, sl 6, sl 7] w (RlPost ab tx (Arc.rline st (x :: r)) w) := by
  obtain ⟨f1, f2, f3, f4, f5, f6⟩ := hf
  have c0 := hc 0 x rfl
  obtain ⟨hq, hqa, hqs⟩ := id ho
  rw [rline_cons]
  rcases rkd_rng x with k | k | k | k | k | k | k | k | k | k
  · simp only [k, show ((-1 : Int) = 0) = False from by decide, show ((-1 : Int) = 1) = False from by decide, show ((-1 : Int) = 2) = False from by decide, show ((-1 : Int) = 3) = False from by decide, show ((-1 : Int) = 4) = False from by decide, show ((-1 : Int) = 5) = False from by decide, show ((-1 : Int) = 6) = False from by decide, show ((-1 : Int) = 7) = False from by decide, show ((-1 : Int) = 8) = False from by decide, if_false]
    exact rl_not h (rl_none_m1 ab q _ c x k (by omega) _ _ w c0)
  · rw [if_pos k]
    match r, hc with
    | [y], hc =>
      refine rl_to (st' := st) (ok := (y == [49])) (by simp) ((rl_haven ab q c x y k _ _ w hq c0 (hc 1 y rfl)).mono fun e w' ⟨he, hb⟩ => ⟨he, ⟨sl, h.below hb, rfl, rfl⟩, hb.mono (Nat.le_of_lt h.lt)⟩)
    | [], _ => rw [if_neg (by simp)]; exact rl_not h (rl_none_0 ab q _ c x k (by simp) (by simp) _ _ w c0)
    | a :: b :: l, _ => rw [if_neg (by simp)]; exact rl_not h (rl_none_0 ab q _ c x k (by simp) (by simp) _ _ w c0)
  · rw [if_neg (by omega), if_pos k]
    match r, hc, hw with
    | [y], hc, hw =>
      exact rl_to2 (ok := Wd.isName y) rfl (rl_name ab q c tx st sl x y k (hw y (by simp)) _ _ w h hq hqa c0 (hc 1 y rfl))
    | [], _, _ => exact rl_not h (rl_none_1 ab q _ c x k (by simp) (by simp) _ _ w c0)
    | a :: b :: l, _, _ => exact rl_not h (rl_none_1 ab q _ c x k (by simp) (by simp) _ _ w c0)
  · rw [if_neg (by omega), if_neg (by omega), if_pos k]
    match r, hc with
    | [y], hc =>
      exact rl_to2 (ok := Ver.fine y) rfl (rl_version ab q c tx st sl x y k _ _ w h hq hqa c0 (hc 1 y rfl))
    | [], _ => exact rl_not h (rl_none_2 ab q _ c x k (by simp) (by simp) _ _ w c0)
    | a :: b :: l, _ => exact rl_not h (rl_none_2 ab q _ c x k (by simp) (by simp) _ _ w c0)
  · rw [if_neg (by omega), if_neg (by omega), if_neg (by omega), if_pos k]
    match r, hc, hw with
    | [y], hc, hw => exact rl_to (ok := Wd.isName y) rfl (rl_needs1 ab q c tx st sl x y k (hw y (by simp)) f1 _ _ w h hq hqa c0 (hc 1 y rfl))
    | [y, v], hc, hw =>
      cases hn : Wd.isName y with
      | false => exact rl_to (ok := false) (by simp [hn]) (rl_needs2_f ab q c tx st sl x y v k (hw y (by simp)) hn f1 _ _ w h hq hqa c0 (hc 1 y rfl) (hc 2 v rfl))
      | true => exact rl_to (ok := Ver.fine v) (by simp [hn]) (rl_needs2_t ab q c tx st sl x y v k (hw y (by simp)) hn f1 _ _ w h hq hqa c0 (hc 1 y rfl) (hc 2 v rfl))
    | [], _, _ => exact rl_not h (rl_none_3 ab q _ c x k (by simp) (by simp) (by simp) _ _ w c0)
    | a :: b :: d :: l, _, _ => exact rl_not h (rl_none_3 ab q _ c x k (by simp) (by simp) (by simp) _ _ w c0)
  · rw [if_neg (by omega), if_neg (by omega), if_neg (by omega), if_neg (by omega), if_pos k]
    match r, hc, hw with
    | [y], hc, hw => exact rl_to (ok := Wd.isName y) rfl (rl_breaks ab q c tx st sl x y k (hw y (by simp)) f2 _ _ w h hq hqa c0 (hc 1 y rfl))
    | [], _, _ => exact rl_not h (rl_none_4 ab q _ c x k (by simp) (by simp) _ _ w c0)
    | a :: b :: l, _, _ => exact rl_not h (rl_none_4 ab q _ c x k (by simp) (by simp) _ _ w c0)
  · rw [if_neg (by omega), if_neg (by omega), if_neg (by omega), if_neg (by omega), if_neg (by omega), if_pos k]
    match r, hc, hw with
    | [y], hc, hw => exact rl_to (ok := Wd.isPath y) rfl (rl_wakes ab q c tx st sl x y k (hw y (by simp)) f3 _ _ w h hq hqa c0 (hc 1 y rfl))
    | [], _, _ => exact rl_not h (rl_none_5 ab q _ c x k (by simp) (by simp) _ _ w c0)
    | a :: b :: l, _, _ => exact rl_not h (rl_none_5 ab q _ c x k (by simp) (by simp) _ _ w c0)
  · rw [if_neg (by omega), if_neg (by omega), if_neg (by omega), if_neg (by omega), if_neg (by omega), if_neg (by omega), if_pos k]
    match r, hc, hw with
    | [y, z, hs], hc, hw =>
      have hy := hw y (by simp)
      have hz := hw z (by simp)
      have done : ∀ b : Bool, (if Wd.isPath y = true ∧ Wd.under y = false ∧ 0 ≤ sz z ∧ (st.files.any fun f => f.1 == y) = false then some { st with files := st.files ++ [(y, sz z, hs)] } else none) = (if b = true then some { st with files := st.files ++ [(y, sz z, hs)] } else none) →
          Calls Tryz.prog 23 #[.pointer (some ⟨ab, 0, none⟩), .slice (some ⟨q, 0, none⟩) 4 c, sl 6, sl 7] w (fun e w' => ∃ sl', e = .returned (.tuple #[sl' 6, sl' 7, .bool b]) ∧ RIn ab tx { st with files := st.files ++ [(y, sz z, hs)] } sl' w' ∧ Below ab w w') →
          Calls Tryz.prog 23 #[.pointer (some ⟨ab, 0, none⟩), .slice (some ⟨q, 0, none⟩) 4 c, sl 6, sl 7] w (RlPost ab tx (if Wd.isPath y = true ∧ Wd.under y = false ∧ 0 ≤ sz z ∧ (st.files.any fun f => f.1 == y) = false then some { st with files := st.files ++ [(y, sz z, hs)] } else none) w) := by
        intro b e hcl
        rw [e]
        refine hcl.mono fun e' w' ⟨sl', he, h1, hb⟩ => ?_
        cases b with
        | false => exact ⟨⟨_, _, he⟩, hb⟩
        | true => exact ⟨sl', he, h1, hb⟩
      cases h1 : Wd.isPath y with
      | false => exact done _ (by simp [h1]) (rl_file_no ab q c tx st sl x y z hs k hy hz f4 h1 w h ho c0 (hc 1 y rfl) (hc 2 z rfl) (hc 3 hs rfl))
      | true =>
        cases h2 : Wd.under y with
        | true => exact done _ (by simp [h2]) (rl_file_under ab q c tx st sl x y z hs k hy hz f4 h1 h2 w h ho c0 (hc 1 y rfl) (hc 2 z rfl) (hc 3 hs rfl))
        | false => exact done _ (by simp only [h1, h2, any_all, Bool.and_eq_true, decide_eq_true_eq, Bool.not_eq_true', true_and]) (rl_file_yes ab q c tx st sl x y z hs k hy hz f4 h1 h2 w h ho c0 (hc 1 y rfl) (hc 2 z rfl) (hc 3 hs rfl))
    | [], _, _ => exact rl_not h (rl_none_6 ab q _ c x k (by simp) (by simp) _ _ w c0)
    | [_], _, _ => exact rl_not h (rl_none_6 ab q _ c x k (by simp) (by simp) _ _ w c0)
    | [_, _], _, _ => exact rl_not h (rl_none_6 ab q _ c x k (by simp) (by simp) _ _ w c0)
    | a :: b :: d :: g :: l, _, _ => exact rl_not h (rl_none_6 ab q _ c x k (by simp) (by simp) _ _ w c0)
  · rw [if_neg (by omega), if_neg (by omega), if_neg (by omega), if_neg (by omega), if_neg (by omega), if_neg (by omega), if_neg (by omega), if_pos k]
    have cr : ∀ j y, r[j]? = some y → w.cell? ⟨q, 1 + j, none⟩ = some (.string ⟨y.toArray⟩) := fun j y hy => hc (1 + j) y (by rw [Nat.add_comm]; exact hy)
    have hwr : ∀ y ∈ r, y.length ≤ 2000 := fun y hy => hw y (by simp [hy])
    rcases hrc : Arc.rcmd false r with ⟨⟨v1, v2, v3, v4⟩, ok⟩
    by_cases h3 : c = 1
    · exact rl_to (ok := ok) rfl (rl_run_few ab q _ c tx st sl x r hwr rfl h3 hnc v1 v2 v3 v4 ok hrc k f5 _ _ w h hq hqa c0 cr)
    · exact rl_to (ok := ok) rfl (rl_run ab q _ c tx st sl x r hwr rfl h3 hnc v1 v2 v3 v4 ok hrc k f5 _ _ w h hq hqa c0 cr)
  · rw [if_neg (by omega), if_neg (by omega), if_neg (by omega), if_neg (by omega), if_neg (by omega), if_neg (by omega), if_neg (by omega), if_neg (by omega), if_pos k]
    have cr : ∀ j y, r[j]? = some y → w.cell? ⟨q, 1 + j, none⟩ = some (.string ⟨y.toArray⟩) := fun j y hy => hc (1 + j) y (by rw [Nat.add_comm]; exact hy)
    have hwr : ∀ y ∈ r, y.length ≤ 2000 := fun y hy => hw y (by simp [hy])
    rcases hrc : Arc.rcmd true r with ⟨⟨v1, v2, v3, v4⟩, ok⟩
    by_cases h3 : c = 1
    · exact rl_to (ok := ok) rfl (rl_woken_few ab q _ c tx st sl x r hwr rfl h3 hnc v1 v2 v3 v4 ok hrc k f6 _ _ w h hq hqa c0 cr)
    · exact rl_to (ok := ok) rfl (rl_woken ab q _ c tx st sl x r hwr rfl h3 hnc v1 v2 v3 v4 ok hrc k f6 _ _ w h hq hqa c0 cr)
end Go.Proofs.YtgdmgmklncmanaaGreatDoor
/- The walk over the document's tables. -/
namespace Go.Proofs.YtgdmgmklncmanaaGreatDoor
open Go.RowKit

def u32s (L : List Int) : List Value := L.map fun n => .int .u32 n
def pri (i : Nat) : Nat := (pr 310).getD i 0
def tabH (a : Nat) : List Int := (List.range a).map fun i => fracP (pri i) false
def tabK (b : Nat) : List Int := (List.range b).map fun i => fracP (pri i) true
theorem tabH_next (a : Nat) : u32s (tabH (a + 1)) = u32s (tabH a) ++ [.int .u32 (fracP (pri a) false)] := by simp [tabH, u32s, List.range_succ]
theorem tabK_next (a : Nat) : u32s (tabK (a + 1)) = u32s (tabK a) ++ [.int .u32 (fracP (pri a) true)] := by simp [tabK, u32s, List.range_succ]
theorem info_u32 : (Tryz.prog.info? 110).map (fun i => (i.zero, i.size, i.bytes)) = some (some (.int .u32 0), 1, 4) := by kernel_rfl
theorem pri_bd (i : Nat) : (0 : Int) ≤ (pri i : Nat) ∧ ((pri i : Nat) : Int) < 1000000 := by
  have h : ∀ q ∈ pr 310, q < 1000000 := fun q hq => by have := (pr_pos 310 q hq).2; omega
  unfold pri List.getD
  cases e : (pr 310)[i]? with
  | none => simp
  | some q =>
    have := h q (List.mem_of_getElem? e)
    simp; omega

structure TbIn (w : World) (B gp : Nat) (hv kv : Value) (a b : Nat) (wr : World) : Prop where
  blk : wr.heap[B]? = some (.cells #[hv, kv] 78 (0, 0))
  hown : wr.ownsRow (B + 1) 110 1 hv a (u32s (tabH a))
  kown : wr.ownsRow (B + 1) 110 1 kv b (u32s (tabK b))
  apart : ∀ g, hv.ownBlock = some g → kv.ownBlock ≠ some g
  pc : ∀ i, i < 64 → wr.cell? ⟨gp, i, none⟩ = some (.int .i64 ((pri i : Nat) : Int))
  gpB : gp < B
  out : wr.heap[w.heap.size]? = some (.cells #[.slice none 0 0, .slice none 0 0] 78 (0, 0))
  ltB : w.heap.size < B
  bel : Below w.heap.size w wr
theorem TbIn.lt {w : World} {B gp : Nat} {hv kv : Value} {a b : Nat} {wr : World} (h : TbIn w B gp hv kv a b wr) : B < wr.heap.size := lt_of_block h.blk
theorem TbIn.on {w : World} {B gp : Nat} {hv kv : Value} {a b : Nat} {wr w2 : World} (h : TbIn w B gp hv kv a b wr) (hb : Below wr.heap.size wr w2) : TbIn w B gp hv kv a b w2 :=
  ⟨(hb.block _ h.lt).trans h.blk, own_below h.hown hb, own_below h.kown hb, h.apart, fun i hi => (hb.cell (p := ⟨gp, i, none⟩) (Nat.lt_trans h.gpB h.lt)).trans (h.pc i hi), h.gpB, (hb.block _ (Nat.lt_trans h.ltB h.lt)).trans h.out, h.ltB, h.bel.trans (hb.mono h.bel.size)⟩
theorem TbIn.drew {w : World} {B gp : Nat} {hv kv : Value} {a b : Nat} {wr : World} (h : TbIn w B gp hv kv a b wr) : TbIn w B gp hv kv a b wr.drew :=
  ⟨h.blk, h.hown, h.kown, h.apart, h.pc, h.gpB, h.out, h.ltB, h.bel.drew⟩
theorem TbIn.alloc {w : World} {B gp : Nat} {hv kv : Value} {a b : Nat} {wr : World} (h : TbIn w B gp hv kv a b wr) (o : Obj) : TbIn w B gp hv kv a b (wr.alloc o) := h.on ((Below.refl _ wr).alloc (Nat.le_refl _) o)
theorem TbIn.kept {w : World} {B gp : Nat} {hv kv : Value} {a b : Nat} {wr w2 : World} (h : TbIn w B gp hv kv a b wr) {v : Value} (hv' : v = hv ∨ v = kv) (hg : wr.grownBy w2 v.ownBlock) : w2.heap[B]? = some (.cells #[hv, kv] 78 (0, 0)) := by
  refine (hg.block B h.lt fun e => ?_).trans h.blk
  rcases hv' with rfl | rfl
  · have := (h.hown.lt B e.symm).1; omega
  · have := (h.kown.lt B e.symm).1; omega
theorem TbIn.putH {w : World} {B gp : Nat} {hv kv : Value} {a b : Nat} {wr w2 : World} (h : TbIn w B gp hv kv a b wr) {v' : Value} (hg : wr.grownBy w2 hv.ownBlock)
    (hown : w2.ownsRow (B + 1) 110 1 v' (a + 1) (u32s (tabH (a + 1)))) (hblk : v'.ownBlock = hv.ownBlock ∨ v'.ownBlock = some wr.heap.size) : TbIn w B gp v' kv (a + 1) b (w2.setCell ⟨B, 0, none⟩ v') := by
  have hb := h.lt
  have far : ∀ k, k < wr.heap.size → k ≤ B → some k ≠ hv.ownBlock := fun k _ hk e => by have := (h.hown.lt k e.symm).1; omega
  refine ⟨heap_setCell_same _ B 0 _ _ v' (h.kept (.inl rfl) hg), ownsRow_setCell_below hown (a := ⟨B, 0, none⟩) (by simp) _, ?_, fun g e1 e2 => ?_, fun i hi => ?_, h.gpB, ?_, h.ltB, ?_⟩
  · refine ownsRow_setCell_below ((h.kown).kept hg ?_) (a := ⟨B, 0, none⟩) (by simp) _
    cases hk : kv.ownBlock with
    | none => exact .inl rfl
    | some g => exact .inr fun e2 => h.apart g e2.symm hk
  · rcases hblk with e | e
    · exact h.apart g (e ▸ e1) e2
    · rw [e] at e1; cases e1
      have := (h.kown.lt _ e2).2; omega
  · have hp := h.pc i hi
    have := hg.block gp (Nat.lt_trans h.gpB hb) (far gp (Nat.lt_trans h.gpB hb) (Nat.le_of_lt h.gpB))
    rw [World.cell?_setCell_far _ _ _ _ (by show B ≠ gp; have := h.gpB; omega)]
    rw [← hp]; simp [World.cell?, this]
  · rw [Below.heap_setCell _ _ _ _ (by show w.heap.size ≠ B; have := h.ltB; omega)]
    exact (hg.block _ (Nat.lt_trans h.ltB hb) (far _ (Nat.lt_trans h.ltB hb) (Nat.le_of_lt h.ltB))).trans h.out
  · exact (h.bel.grown hg h.bel.size (fun k hk => by have := (h.hown.lt k hk).1; have := h.ltB; omega)).setCell (p := ⟨B, 0, none⟩) (Nat.le_of_lt h.ltB) _
theorem TbIn.putK {w : World} {B gp : Nat} {hv kv : Value} {a b : Nat} {wr w2 : World} (h : TbIn w B gp hv kv a b wr) {v' : Value} (hg : wr.grownBy w2 kv.ownBlock)
    (hown : w2.ownsRow (B + 1) 110 1 v' (b + 1) (u32s (tabK (b + 1)))) (hblk : v'.ownBlock = kv.ownBlock ∨ v'.ownBlock = some wr.heap.size) : TbIn w B gp hv v' a (b + 1) (w2.setCell ⟨B, 1, none⟩ v') := by
  have hb := h.lt
  have far : ∀ k, k < wr.heap.size → k ≤ B → some k ≠ kv.ownBlock := fun k _ hk e => by have := (h.kown.lt k e.symm).1; omega
  refine ⟨heap_setCell_same _ B 1 _ _ v' (h.kept (.inr rfl) hg), ?_, ownsRow_setCell_below hown (a := ⟨B, 1, none⟩) (by simp) _, fun g e1 e2 => ?_, fun i hi => ?_, h.gpB, ?_, h.ltB, ?_⟩
  · refine ownsRow_setCell_below ((h.hown).kept hg ?_) (a := ⟨B, 1, none⟩) (by simp) _
    cases hk : hv.ownBlock with
    | none => exact .inl rfl
    | some g => exact .inr fun e2 => h.apart g hk e2.symm
  · rcases hblk with e | e
    · exact h.apart g e1 (e ▸ e2)
    · rw [e] at e2; cases e2
      have := (h.hown.lt _ e1).2; omega
  · have hp := h.pc i hi
    have := hg.block gp (Nat.lt_trans h.gpB hb) (far gp (Nat.lt_trans h.gpB hb) (Nat.le_of_lt h.gpB))
    rw [World.cell?_setCell_far _ _ _ _ (by show B ≠ gp; have := h.gpB; omega)]
    rw [← hp]; simp [World.cell?, this]
  · rw [Below.heap_setCell _ _ _ _ (by show w.heap.size ≠ B; have := h.ltB; omega)]
    exact (hg.block _ (Nat.lt_trans h.ltB hb) (far _ (Nat.lt_trans h.ltB hb) (Nat.le_of_lt h.ltB))).trans h.out
  · exact (h.bel.grown hg h.bel.size (fun k hk => by have := (h.kown.lt k hk).1; have := h.ltB; omega)).setCell (p := ⟨B, 1, none⟩) (Nat.le_of_lt h.ltB) _

theorem TbIn.c0 {w : World} {B gp : Nat} {hv kv : Value} {a b : Nat} {wr : World} (h : TbIn w B gp hv kv a b wr) : wr.cell? ⟨B, 0, none⟩ = some hv := (row_cell h.blk 0).trans rfl
theorem TbIn.c1 {w : World} {B gp : Nat} {hv kv : Value} {a b : Nat} {wr : World} (h : TbIn w B gp hv kv a b wr) : wr.cell? ⟨B, 1, none⟩ = some kv := (row_cell h.blk 1).trans rfl
def TbPc (g : Nat) (wr : World) : Prop := ∀ i, i < 64 → wr.cell? ⟨g, i, none⟩ = some (.int .i64 ((pri i : Nat) : Int))
theorem TbIn.pcs {w : World} {B gp : Nat} {hv kv : Value} {a b : Nat} {wr : World} (h : TbIn w B gp hv kv a b wr) : TbPc gp wr := h.pc
theorem TbPc.at {g k : Nat} {wr : World} (h : TbPc g wr) (hk : k < 64) : TbPc g wr ∧ wr.cell? ⟨g, k, none⟩ = some (.int .i64 ((pri k : Nat) : Int)) := ⟨h, h k hk⟩
theorem TbPc.atB {g k B : Nat} {wr : World} {j : Nat} {v : Value} (h : TbPc g wr) (hk : k < 64) (hb : wr.cell? ⟨B, j, none⟩ = some v) : TbPc g wr ∧ wr.cell? ⟨g, k, none⟩ = some (.int .i64 ((pri k : Nat) : Int)) ∧ wr.cell? ⟨B, j, none⟩ = some v := ⟨h, h k hk, hb⟩
theorem TbPc.setCell {g B : Nat} {wr : World} (h : TbPc g wr) (hne : g ≠ B) {j : Nat} (v : Value) : TbPc g (wr.setCell ⟨B, j, none⟩ v) := fun i hi => by
  rw [World.cell?_setCell_far _ _ _ _ (by show B ≠ g; exact Ne.symm hne)]; exact h i hi
theorem TbPc.grown {g : Nat} {wr w2 : World} (h : TbPc g wr) {v : Value} (hg : wr.grownBy w2 v.ownBlock) {w : World} {B : Nat} {hv kv : Value} {a b : Nat} (ht : TbIn w B g hv kv a b wr) (hv' : v = hv ∨ v = kv) : TbPc g w2 := fun i hi => by
  have hb := ht.lt
  have hgB := ht.gpB
  have : w2.heap[g]? = wr.heap[g]? := hg.block g (by omega) (fun e => by
    rcases hv' with rfl | rfl
    · have := (ht.hown.lt g e.symm).1; omega
    · have := (ht.kown.lt g e.symm).1; omega)
  rw [← h i hi]; simp [World.cell?, this]
theorem TbIn.begin {w w1 : World} {g c : Nat} {o : Obj} (ho : o = .cells #[.slice none 0 0, .slice none 0 0] 78) (hp : w1.ownsRow (w.alloc o).heap.size 3 1 (.slice (some ⟨g, 0, none⟩) 64 c) 64 (natsV (pr 310))) (hb : Below (w.alloc o).heap.size (w.alloc o) w1) :
    TbIn w w1.heap.size g (.slice none 0 0) (.slice none 0 0) 0 0 (w1.alloc (.cells #[.slice none 0 0, .slice none 0 0] 78)) := by
  have hs := hb.size
  have e0 : (w.alloc o).heap.size = w.heap.size + 1 := by simp
  have hg := (hp.lt g rfl).2
  refine ⟨heap_alloc_new w1 _, World.ownsRow_nil _ _ _ _, World.ownsRow_nil _ _ _ _, (fun g e1 _ => by cases e1), fun i hi => ?_, hg, ?_, by omega, ?_⟩
  · rw [((Below.refl _ w1).alloc (Nat.le_refl _) _).cell (p := ⟨g, i, none⟩) hg, hp.cellAt _ (by omega), natsV_get (by rw [pr_310]; exact hi)]
    rfl
  · rw [Below.heap_alloc _ _ _ (by omega), hb.block _ (by omega), heap_alloc_new, ho]
  · exact (((Below.refl _ w).alloc (Nat.le_refl _) o).trans (hb.mono (by omega))).alloc (by omega) _

set_option maxRecDepth 100000 in
set_option maxHeartbeats 1000000 in
theorem tables_any (w : World) :
    Calls Tryz.prog 24 #[] w fun e w' => ∃ hv kv, e = .returned (.agg #[hv, kv]) ∧ w'.ownsRow w.heap.size 110 1 hv 8 (u32s (tabH 8)) ∧ w'.ownsRow w.heap.size 110 1 kv 64 (u32s (tabK 64)) ∧ Below w.heap.size w w' := by
  obtain ⟨i0, hi, hz0, hz1, hz2⟩ := info_three info_u32
  go_enter Tryz.func24, Tryz.ntmps24
  go_wp2_with fail
  refine (primes_any _).mono ?_
  rintro e w1 ⟨v, rfl, hp, hb1⟩
  obtain ⟨g, c, rfl⟩ := own_form hp (by omega)
  have HT := hide (TbIn.begin rfl hp hb1)
  clear hp hb1
  go_wp2_with fail
  generalize hB : w1.heap.size = B at *
  go_loopw [3] (fun i wr => ∃ (k a : Nat) (hv kv : Value), k ≤ 64 ∧ a = min k 8 ∧ i = .int .i64 k ∧ Hid (TbIn w B g hv kv a k wr)) (fun i _ => 64 - (intOf i).toNat)
  case atStart => exact ⟨0, 0, _, _, by omega, rfl, rfl, HT⟩
  case round =>
    clear HT
    obtain ⟨k, a, hv, kv, hk, ha, rfl, HT⟩ := hrel
    by_cases hlt : k < 64
    · have b1 : (k : Int) < 64 := by omega
      have p1 := HT.out.pc k hlt
      obtain ⟨q1, q2⟩ := pri_bd k
      by_cases h8 : k < 8
      · have b2 : (k : Int) < 8 := by omega
        obtain rfl : k = a := by omega
        clear ha hB
        obtain ⟨ao, ac, rfl⟩ := slice_form HT.out.hown
        have k0 := TbIn.c0 HT.out
        have f0 := row_free HT.out.blk 0
        go_wp2_with fail
        go_region_law (first
          | (go_simp; go_at_call 51; refine (fraction_any ((pri k : Nat) : Int) q1 q2 false _).mono ?_; rintro e w2 ⟨rfl, hb2⟩; dsimp only; have H2 := hide (TbIn.on (by first | exact HT.out.drew | exact HT.out) hb2); have k2 := TbIn.c0 H2.out; have k4 := fun o => TbIn.c0 (TbIn.alloc H2.out o); clear hb2)
          | (refine step_append_own (by rfl) _ _ 76 (by rfl) (B + 1) 110 i0 _ 1 4 Tryz.underlying76 hi hz0 hz1 hz2 (by rfl) (by decide) (.slice ao k ac) k (u32s (tabH k)) (by rfl) (H2.out.alloc _).hown ⟨w2.heap.size, 0, none⟩ 1 1 [.int .u32 (fracP ((pri k : Nat) : Int) false)] (by rfl) (by rfl) (cell_one_new _ _ _) (fun x hx => by simp at hx; subst hx; rfl) (by unfold maxLen; omega) (by omega) (by have := H2.out.lt; simp; omega) ?_; intro v' w3 hown' hgrow3 hnil3 hblk3; have hk3 := TbIn.kept (H2.out.alloc _) (.inl rfl) hgrow3; have q3 := (row_cell hk3 0).trans (show _ = some (.slice ao k ac) from rfl); have g3 := row_free hk3 0; obtain ⟨gv, cv, rfl⟩ := own_form hown' (by omega); have O3 := hide hown'; have G3 := hide hgrow3; have B3 := hide hblk3; clear hown' hnil3 hgrow3 hblk3 hk3))
        all_goals
          have HT3 := hide (TbIn.putH (H2.out.alloc _) G3.out (by rw [tabH_next]; exact O3.out) B3.out)
          clear H2 k2 k4 q3 g3 O3 G3 B3 k0 f0 p1 HT
          obtain ⟨bo, bc, rfl⟩ := slice_form HT3.out.kown
          have j0 := TbIn.c1 HT3.out
          have e0 := row_free HT3.out.blk 1
          have p1 := HT3.out.pc k hlt
          go_wp2_with fail
          go_region_law (first
            | (go_simp; go_at_call 51; refine (fraction_any ((pri k : Nat) : Int) q1 q2 true _).mono ?_; rintro e w5 ⟨rfl, hb5⟩; dsimp only; have H5 := hide (TbIn.on (by first | exact HT3.out.drew | exact HT3.out) hb5); have j2 := TbIn.c1 H5.out; have j4 := fun o => TbIn.c1 (TbIn.alloc H5.out o); clear hb5)
            | (refine step_append_own (by rfl) _ _ 76 (by rfl) (B + 1) 110 i0 _ 1 4 Tryz.underlying76 hi hz0 hz1 hz2 (by rfl) (by decide) (.slice bo k bc) k (u32s (tabK k)) (by rfl) (H5.out.alloc _).kown ⟨w5.heap.size, 0, none⟩ 1 1 [.int .u32 (fracP ((pri k : Nat) : Int) true)] (by rfl) (by rfl) (cell_one_new _ _ _) (fun x hx => by simp at hx; subst hx; rfl) (by unfold maxLen; omega) (by omega) (by have := H5.out.lt; simp; omega) ?_; intro v' w6 hown' hgrow3 hnil3 hblk3; have hk3 := TbIn.kept (H5.out.alloc _) (.inr rfl) hgrow3; have m3 := (row_cell hk3 1).trans (show _ = some (.slice bo k bc) from rfl); have n3 := row_free hk3 1; obtain ⟨gx, cx, rfl⟩ := own_form hown' (by omega); have O6 := hide hown'; have G6 := hide hgrow3; have B6 := hide hblk3; clear hown' hnil3 hgrow3 hblk3 hk3))
          all_goals
            have HT6 := hide (TbIn.putK (H5.out.alloc _) G6.out (by rw [tabK_next]; exact O6.out) B6.out)
            go_wp2_with fail
            refine ⟨⟨k + 1, k + 1, _, _, by omega, by omega, by go_num, HT6⟩, by simp [intOf]; omega⟩
      · have b2 : ¬ (k : Int) < 8 := by omega
        obtain rfl : a = 8 := by omega
        clear ha hB p1
        obtain ⟨bo, bc, rfl⟩ := slice_form HT.out.kown
        have j0 := TbIn.c1 HT.out
        have e0 := row_free HT.out.blk 1
        have p1 := HT.out.pc k hlt
        go_wp2_with fail
        go_region_law (first
          | (go_simp; go_at_call 51; refine (fraction_any ((pri k : Nat) : Int) q1 q2 true _).mono ?_; rintro e w5 ⟨rfl, hb5⟩; dsimp only; have H5 := hide (TbIn.on (by first | exact HT.out.drew | exact HT.out) hb5); have j2 := TbIn.c1 H5.out; have j4 := fun o => TbIn.c1 (TbIn.alloc H5.out o); clear hb5)
          | (refine step_append_own (by rfl) _ _ 76 (by rfl) (B + 1) 110 i0 _ 1 4 Tryz.underlying76 hi hz0 hz1 hz2 (by rfl) (by decide) (.slice bo k bc) k (u32s (tabK k)) (by rfl) (H5.out.alloc _).kown ⟨w5.heap.size, 0, none⟩ 1 1 [.int .u32 (fracP ((pri k : Nat) : Int) true)] (by rfl) (by rfl) (cell_one_new _ _ _) (fun x hx => by simp at hx; subst hx; rfl) (by unfold maxLen; omega) (by omega) (by have := H5.out.lt; simp; omega) ?_; intro v' w6 hown' hgrow3 hnil3 hblk3; have hk3 := TbIn.kept (H5.out.alloc _) (.inr rfl) hgrow3; have m3 := (row_cell hk3 1).trans (show _ = some (.slice bo k bc) from rfl); have n3 := row_free hk3 1; obtain ⟨gx, cx, rfl⟩ := own_form hown' (by omega); have O6 := hide hown'; have G6 := hide hgrow3; have B6 := hide hblk3; clear hown' hnil3 hgrow3 hblk3 hk3))
        all_goals
          have HT6 := hide (TbIn.putK (H5.out.alloc _) G6.out (by rw [tabK_next]; exact O6.out) B6.out)
          go_wp2_with fail
          refine ⟨⟨k + 1, 8, _, _, by omega, by omega, by go_num, HT6⟩, by simp [intOf]; omega⟩
    · obtain rfl : k = 64 := by omega
      obtain rfl : a = 8 := by omega
      clear ha hB
      obtain ⟨ao, ac, rfl⟩ := slice_form HT.out.hown
      obtain ⟨bo, bc, rfl⟩ := slice_form HT.out.kown
      have k0 := TbIn.c0 HT.out
      have k1 := TbIn.c1 HT.out
      have o0 := (row_cell HT.out.out 0).trans (show _ = some (.slice none 0 0) from rfl)
      have o1 := (row_cell HT.out.out 1).trans (show _ = some (.slice none 0 0) from rfl)
      have x0 := row_free HT.out.out 0
      have x1 := row_free HT.out.out 1
      go_wp2_with fail
      have R : RowIs w wr w.heap.size 78 _ wr := ⟨HT.out.out, HT.out.bel, fun _ _ => rfl, rfl⟩
      have R2 := (R.set (Nat.le_refl _) 0 (.slice ao 8 ac)).set (Nat.le_refl _) 1 (.slice bo 64 bc)
      have v0 := (row_cell R2.row 0).trans (show _ = some (.slice ao 8 ac) from rfl)
      have v1 := (row_cell R2.row 1).trans (show _ = some (.slice bo 64 bc) from rfl)
      have hB := HT.out.ltB
      refine bodyPost_ret (v := .agg #[.slice ao 8 ac, .slice bo 64 bc]) (by simp [results, Tryz.results24, go_sem, v0, v1]) rfl ⟨_, _, rfl, ?_, ?_, R2.bel⟩
      · exact own_le (ownsRow_setCell_below (ownsRow_setCell_below HT.out.hown (a := ⟨w.heap.size, 0, none⟩) (by show w.heap.size < B + 1; omega) _) (a := ⟨w.heap.size, 1, none⟩) (by show w.heap.size < B + 1; omega) _) (by omega)
      · exact own_le (ownsRow_setCell_below (ownsRow_setCell_below HT.out.kown (a := ⟨w.heap.size, 0, none⟩) (by show w.heap.size < B + 1; omega) _) (a := ⟨w.heap.size, 1, none⟩) (by show w.heap.size < B + 1; omega) _) (by omega)
end Go.Proofs.YtgdmgmklncmanaaGreatDoor
