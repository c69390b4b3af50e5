/- Of Ins: RdMath3, HfW1, SizeW2. -/
import Derived.Test.YtgdmgmklncmanaaGreatDoorIns18
import Derived.Test.YtgdmgmklncmanaaGreatDoorIns13
import Derived.Test.YtgdmgmklncmanaaGreatDoorIns11
import Derived.Test.YtgdmgmklncmanaaGreatDoorIns31
/- Both readings of an archive are one. -/
namespace Go.Proofs.YtgdmgmklncmanaaGreatDoor
namespace Arc
variable (short : S → S)

theorem eat_cons' (f : S × Int × S) (fs : List (S × Int × S)) (c : S) : eat short (f :: fs) c = if f.2.1 ≤ c.length ∧ short (c.take f.2.1.toNat) = f.2.2 then (eat short fs (c.drop f.2.1.toNat)).map fun r => ((f.1, c.take f.2.1.toNat) :: r.1, r.2) else none := rfl
theorem eat_app : ∀ (a b : List (S × Int × S)) (c : S), eat short (a ++ b) c = match eat short a c with
    | none => none
    | some (F, l) => (eat short b l).map fun r => (F ++ r.1, r.2)
  | [], b, c => by simp [eat]
  | f :: a, b, c => by
    rw [List.cons_append, eat_cons', eat_cons', eat_app a b]
    by_cases h : f.2.1 ≤ c.length ∧ short (c.take f.2.1.toNat) = f.2.2
    · rw [if_pos h, if_pos h]
      cases eat short a (c.drop f.2.1.toNat) with
      | none => rfl
      | some q =>
        obtain ⟨F, l⟩ := q
        cases h2 : eat short b l <;> simp [h2]
    · rw [if_neg h, if_neg h]
theorem eat_paths : ∀ (a : List (S × Int × S)) (c : S) (F : List (S × S)) (l : S), eat short a c = some (F, l) → F.map (·.1) = a.map (·.1)
  | [], c, F, l, h => by simp [eat] at h; rw [h.1]; rfl
  | f :: a, c, F, l, h => by
    rw [eat_cons'] at h
    split at h
    · cases h2 : eat short a (c.drop f.2.1.toNat) with
      | none => rw [h2] at h; simp at h
      | some q =>
        obtain ⟨F', l'⟩ := q
        rw [h2] at h
        simp at h
        rw [← h.1]
        simp [eat_paths a _ F' l' h2]
    · simp at h
theorem any_paths {F : List (S × S)} {a : List (S × Int × S)} (h : F.map (·.1) = a.map (·.1)) (p : S) : (F.any fun f => f.1 == p) = (a.any fun f => f.1 == p) := by
  have h1 : (F.any fun f => f.1 == p) = (F.map (·.1)).any (fun y => y == p) := by rw [List.any_map]; rfl
  have h2 : (a.any fun f => f.1 == p) = (a.map (·.1)).any (fun y => y == p) := by rw [List.any_map]; rfl
  rw [h1, h2, h]

/-- What both readings have come to. -/
structure Rel (c0 : S) (st : St) (rst : RSt) : Prop where
  needs : rst.needs = st.needs
  breaks : rst.breaks = st.breaks
  wakes : rst.wakes = st.wakes
  runs : st.runs = rst.runs.map RCmd.kept
  wokens : st.wokens = rst.wokens.map RCmd.kept
  eaten : eat short rst.files c0 = some (st.files, st.left)

theorem rline_k (st : RSt) (x : S) (r : List S) : rline st (x :: r) =
  if rkd x = 0 then (if r = [[49]] then some st else none)
  else if rkd x = 1 then match r with
    | [n] => if Wd.isName n then some { st with name := n } else none
    | _ => none
  else if rkd x = 2 then match r with
    | [v] => if Ver.fine v then some { st with version := v } else none
    | _ => none
  else if rkd x = 3 then match r with
    | [n] => if Wd.isName n then some { st with needs := st.needs ++ [(n, [])] } else none
    | [n, v] => if Wd.isName n && Ver.fine v then some { st with needs := st.needs ++ [(n, v)] } else none
    | _ => none
  else if rkd x = 4 then match r with
    | [n] => if Wd.isName n then some { st with breaks := st.breaks ++ [n] } else none
    | _ => none
  else if rkd x = 5 then match r with
    | [p] => if Wd.isPath p then some { st with wakes := st.wakes ++ [p] } else none
    | _ => none
  else if rkd x = 6 then match r with
    | [p, z, h] => if Wd.isPath p = true ∧ Wd.under p = false ∧ 0 ≤ sz z ∧ (st.files.any fun f => f.1 == p) = false then some { st with files := st.files ++ [(p, sz z, h)] } else none
    | _ => none
  else if rkd x = 7 then (if (rcmd false r).2 = true then some { st with runs := st.runs ++ [(rcmd false r).1] } else none)
  else if rkd x = 8 then (if (rcmd true r).2 = true then some { st with wokens := st.wokens ++ [(rcmd true r).1] } else none)
  else none := rfl
/-- A line keeps the files that there are. -/
theorem rline_files {st st' : RSt} {x : S} {r : List S} (h : rline st (x :: r) = some st') : ∃ b, st'.files = st.files ++ b := by
  rw [rline_k] at h
  generalize rkd x = kk at h
  repeat' split at h
  all_goals first
    | (cases h; done)
    | (cases h; exact ⟨[], (List.append_nil _).symm⟩)
    | (cases h; exact ⟨_, rfl⟩)
theorem eat_none_app {a b : List (S × Int × S)} {c : S} (h : eat short a c = none) : eat short (a ++ b) c = none := by rw [eat_app, h]
theorem rfold_none : ∀ (ls : List S) (st st' : RSt) (k k' : Int) (c : S), eat short st.files c = none → rfold st k ls = some (st', k') → eat short st'.files c = none
  | [], st, st', k, k', c, he, h => by cases h; exact he
  | l :: ls, st, st', k, k', c, he, h => by
    rw [rfold] at h
    obtain ⟨a, r, har⟩ : ∃ a r, sp 32 l = a :: r := by
      cases h : sp 32 l with
      | nil => exact absurd h (sp_ne 32 l)
      | cons a r => exact ⟨a, r, rfl⟩
    rw [har] at h
    cases h1 : rline st (a :: r) with
    | none => rw [h1] at h; simp at h
    | some st1 =>
      rw [h1] at h
      simp only at h
      obtain ⟨b, hb⟩ := rline_files h1
      split at h
      · simp at h
      · exact rfold_none ls st1 st' _ k' c (by rw [hb]; exact eat_none_app short he) h

/-- One line: what the program's reading does, the document's does. -/
theorem line_sim {c0 : S} {st : St} {rst : RSt} (hR : Rel short c0 st rst) (x : S) (r : List S) (hk : rkd x = kd x + 2) (h1 : 1 ≤ kd x) :
    match pline short st (kd x) r with
    | some st' => ∃ rst', rline rst (x :: r) = some rst' ∧ Rel short c0 st' rst' ∧ rst'.name = rst.name ∧ rst'.version = rst.version
    | none => rline rst (x :: r) = none ∨ ∃ rst', rline rst (x :: r) = some rst' ∧ eat short rst'.files c0 = none := by
  rw [rline_k]
  have hb := kd_bd x
  obtain ⟨e1, e2, e3, e4, e5, e6⟩ := hR
  rcases (show kd x = 1 ∨ kd x = 2 ∨ kd x = 3 ∨ kd x = 4 ∨ kd x = 5 ∨ kd x = 6 from by omega) with h | h | h | h | h | h
  · rw [h] at hk ⊢; rw [hk]
    match r with
    | [] => simp [pline]
    | [n] =>
      by_cases hn : Wd.isName n = true
      · simp only [pline]; simp [hn]; exact ⟨by simp [e1], e2, e3, e4, e5, e6⟩
      · simp only [pline]; simp [hn]
    | [n, v] =>
      by_cases hn : Wd.isName n = true <;> by_cases hv : Ver.fine v = true
      · simp only [pline]; simp [hn, hv]; exact ⟨by simp [e1], e2, e3, e4, e5, e6⟩
      · simp only [pline]; simp [hn, hv]
      · simp only [pline]; simp [hn, hv]
      · simp only [pline]; simp [hn, hv]
    | a :: b :: c :: l => simp [pline]
  · rw [h] at hk ⊢; rw [hk]
    match r with
    | [] => simp [pline]
    | [n] =>
      by_cases hn : Wd.isName n = true
      · simp only [pline]; simp [hn]; exact ⟨e1, by simp [e2], e3, e4, e5, e6⟩
      · simp only [pline]; simp [hn]
    | a :: b :: l => simp [pline]
  · rw [h] at hk ⊢; rw [hk]
    match r with
    | [] => simp [pline]
    | [n] =>
      by_cases hn : Wd.isPath n = true
      · simp only [pline]; simp [hn]; exact ⟨e1, e2, by simp [e3], e4, e5, e6⟩
      · simp only [pline]; simp [hn]
    | a :: b :: l => simp [pline]
  · rw [h] at hk ⊢; rw [hk]
    match r with
    | [] => simp [pline]
    | [a] => simp [pline]
    | [a, b] => simp [pline]
    | [p, z, hh] =>
      have hany := any_paths (eat_paths short _ _ _ _ e6) p
      by_cases g : Wd.isPath p = true ∧ Wd.under p = false ∧ 0 ≤ sz z ∧ (rst.files.any fun f => f.1 == p) = false
      · have hone : eat short (rst.files ++ [(p, sz z, hh)]) c0 = if sz z ≤ st.left.length ∧ short (st.left.take (sz z).toNat) = hh then some (st.files ++ [(p, st.left.take (sz z).toNat)], st.left.drop (sz z).toNat) else none := by
          rw [eat_app, e6]
          simp only [eat_cons']
          split
          · simp [eat]
          · simp
        have er : (if (4 : Int) + 2 = 0 then (if [p, z, hh] = [[49]] then some rst else none) else (none : Option RSt)) = none := by simp
        clear er
        by_cases q : sz z ≤ st.left.length ∧ short (st.left.take (sz z).toNat) = hh
        · rw [if_pos q] at hone
          have hp : pline short st 4 [p, z, hh] = some { st with files := st.files ++ [(p, st.left.take (sz z).toNat)], left := st.left.drop (sz z).toNat } := by
            have : 0 ≤ sz z ∧ sz z ≤ st.left.length ∧ Wd.isPath p = true ∧ Wd.under p = false ∧ (st.files.any fun f => f.1 == p) = false ∧ short (st.left.take (sz z).toNat) = hh := ⟨g.2.2.1, q.1, g.1, g.2.1, by rw [hany]; exact g.2.2.2, q.2⟩
            simp only [pline]
            rw [if_neg (by decide), if_neg (by decide), if_neg (by decide), if_pos trivial, if_pos this]
          rw [hp]
          refine ⟨{ rst with files := rst.files ++ [(p, sz z, hh)] }, ?_, ⟨e1, e2, e3, e4, e5, hone⟩, rfl, rfl⟩
          rw [if_neg (by decide), if_neg (by decide), if_neg (by decide), if_neg (by decide), if_neg (by decide), if_neg (by decide), if_pos (by decide)]
          exact if_pos g
        · rw [if_neg q] at hone
          have hp : pline short st 4 [p, z, hh] = none := by
            have : ¬ (0 ≤ sz z ∧ sz z ≤ st.left.length ∧ Wd.isPath p = true ∧ Wd.under p = false ∧ (st.files.any fun f => f.1 == p) = false ∧ short (st.left.take (sz z).toNat) = hh) := fun t => q ⟨t.2.1, t.2.2.2.2.2⟩
            simp only [pline]
            rw [if_neg (by decide), if_neg (by decide), if_neg (by decide), if_pos trivial, if_neg this]
          rw [hp]
          refine .inr ⟨{ rst with files := rst.files ++ [(p, sz z, hh)] }, ?_, hone⟩
          rw [if_neg (by decide), if_neg (by decide), if_neg (by decide), if_neg (by decide), if_neg (by decide), if_neg (by decide), if_pos (by decide)]
          exact if_pos g
      · have hp : pline short st 4 [p, z, hh] = none := by
          have : ¬ (0 ≤ sz z ∧ sz z ≤ st.left.length ∧ Wd.isPath p = true ∧ Wd.under p = false ∧ (st.files.any fun f => f.1 == p) = false ∧ short (st.left.take (sz z).toNat) = hh) := fun t => g ⟨t.2.2.1, t.2.2.2.1, t.1, by rw [← hany]; exact t.2.2.2.2.1⟩
          simp only [pline]
          rw [if_neg (by decide), if_neg (by decide), if_neg (by decide), if_pos trivial, if_neg this]
        rw [hp]
        refine .inl ?_
        rw [if_neg (by decide), if_neg (by decide), if_neg (by decide), if_neg (by decide), if_neg (by decide), if_neg (by decide), if_pos (by decide)]
        exact if_neg g
    | a :: b :: c :: d :: l => simp [pline]
  · rw [h] at hk ⊢; rw [hk]
    obtain ⟨c1, c2⟩ := rcmd_pcmd r false
    by_cases g : (pcmd r).2 = true ∧ (pcmd r).1.verb ≠ 5
    · have gr : (rcmd false r).2 = true := by rw [c1]; simp [g.1, g.2]
      simp only [pline]; simp [g.1, g.2, gr]
      exact ⟨e1, e2, e3, by simp [e4, c2 g.1], e5, e6⟩
    · have gr : (rcmd false r).2 = false := by
        rw [c1]; by_cases q : (pcmd r).2 = true
        · simp [q]; exact Classical.not_not.1 fun t => g ⟨q, t⟩
        · simp [q]
      have hp : pline short st 5 r = none := by
        simp only [pline]
        rw [if_neg (by decide), if_neg (by decide), if_neg (by decide), if_neg (by decide), if_pos trivial, if_neg g]
      rw [hp]
      exact .inl (by simp [gr])
  · rw [h] at hk ⊢; rw [hk]
    obtain ⟨c1, c2⟩ := rcmd_pcmd r true
    by_cases g : (pcmd r).2 = true
    · have gr : (rcmd true r).2 = true := by rw [c1]; simp [g]
      simp only [pline]; simp [g, gr]
      exact ⟨e1, e2, e3, e4, by simp [e5, c2 g], e6⟩
    · have gr : (rcmd true r).2 = false := by rw [c1]; simp [g]
      have hp : pline short st 6 r = none := by simp [pline, g]
      rw [hp]
      exact .inl (by simp [gr])

theorem rline_no (st : RSt) (x : S) (r : List S) (h : rkd x = -1) : rline st (x :: r) = none := by rw [rline_k, h]; simp
/-- All lines behind the first three. -/
theorem body_sim (c0 : S) : ∀ (ls : List S) (st : St) (rst : RSt) (last : Int), 0 ≤ last → Rel short c0 st rst →
    match pbody short st last ls with
    | some st' => ∃ rst' k', rfold rst (last + 2) ls = some (rst', k') ∧ 2 ≤ k' ∧ Rel short c0 st' rst' ∧ rst'.name = rst.name ∧ rst'.version = rst.version
    | none => rfold rst (last + 2) ls = none ∨ ∃ rst' k', rfold rst (last + 2) ls = some (rst', k') ∧ eat short rst'.files c0 = none
  | [], st, rst, last, hl, hR => ⟨rst, last + 2, rfl, by omega, hR, rfl, rfl⟩
  | l :: ls, st, rst, last, hl, hR => by
    obtain ⟨a, r, har⟩ : ∃ a r, sp 32 l = a :: r := by
      cases h : sp 32 l with
      | nil => exact absurd h (sp_ne 32 l)
      | cons a r => exact ⟨a, r, rfl⟩
    have hb := kd_bd a
    rw [pbody, rfold, har, show (a :: r).head! = a from rfl, show (a :: r).tail = r from rfl]
    by_cases hbad : kd a = 0 ∨ kd a < last
    · rw [if_pos hbad]
      refine .inl ?_
      cases h1 : rline rst (a :: r) with
      | none => rfl
      | some st1 =>
        have : rbad (rkd a) (last + 2) := by
          rcases rkd_cases a with ⟨h, -, h0⟩ | ⟨h, -, h0⟩ | ⟨h, -, h0⟩ | ⟨h, h0⟩ | ⟨h, h0⟩
          · left; omega
          · left; omega
          · by_cases hz : last = 0
            · right; left; omega
            · left; omega
          · rw [rline_no _ _ _ h] at h1; cases h1
          · left; omega
        simp only
        rw [if_pos this]
    · rw [if_neg hbad]
      have h1 : 1 ≤ kd a := by omega
      have hk : rkd a = kd a + 2 := by
        rcases rkd_cases a with ⟨h, -, h0⟩ | ⟨h, -, h0⟩ | ⟨h, -, h0⟩ | ⟨h, h0⟩ | ⟨h, h0⟩ <;> omega
      have hnb : ¬ rbad (rkd a) (last + 2) := by
        rintro (q | q | q) <;> omega
      have hs := line_sim short hR a r hk h1
      cases hp : pline short st (kd a) r with
      | none =>
        rw [hp] at hs
        rcases hs with hs | ⟨rst', hs, he⟩
        · rw [hs]; exact .inl rfl
        · rw [hs]
          simp only
          rw [if_neg hnb]
          cases hf : rfold rst' (rkd a) ls with
          | none => exact .inl rfl
          | some q => obtain ⟨rst2, k2⟩ := q; exact .inr ⟨rst2, k2, rfl, rfold_none short ls rst' rst2 _ k2 c0 he hf⟩
      | some st' =>
        rw [hp] at hs
        obtain ⟨rst', hs, hR', n1, n2⟩ := hs
        rw [hs]
        simp only
        rw [if_neg hnb, hk]
        have ih := body_sim c0 ls st' rst' (kd a) (by omega) hR'
        cases hq : pbody short st' (kd a) ls with
        | none => rw [hq] at ih; exact ih
        | some st2 =>
          rw [hq] at ih
          obtain ⟨rst2, k2, g1, g2, g3, g4, g5⟩ := ih
          exact ⟨rst2, k2, g1, g2, g3, by rw [g4, n1], by rw [g5, n2]⟩

/-- Both readings of a text are one. -/
theorem parse_rread (x : S) : match parse short x with
    | none => rread short x = none
    | some (n, v, st) => ∃ rst, rread short x = some (rst, st.files) ∧ rst.name = n ∧ rst.version = v ∧ rst.needs = st.needs ∧ rst.breaks = st.breaks ∧ rst.wakes = st.wakes ∧ st.runs = rst.runs.map RCmd.kept ∧ st.wokens = rst.wokens.map RCmd.kept := by
  rw [parse, rread]
  by_cases hx : 2000 < x.length
  · rw [if_pos hx, if_pos hx]
  rw [if_neg hx, if_neg hx]
  match x with
  | [] => simp [cutTwo, rcut]
  | c :: l =>
    by_cases hc : c = 10
    · subst hc
      have hr : rcut [] (10 :: l) = some ([], l) := by rw [rcut, if_pos rfl, if_pos rfl]
      rw [hr]
      cases h2 : cutTwo (10 :: l) with
      | none => simp [rfold]
      | some q =>
        obtain ⟨head, ct⟩ := q
        have hh := cutTwo_head l head ct h2
        simp only
        cases hsp : sp 10 head with
        | nil => simp [rfold]
        | cons a t =>
          rw [hsp] at hh
          simp at hh
          subst hh
          match t with
          | [] => simp [rfold]
          | [b] => simp [rfold]
          | b :: d :: ls =>
            have : headOk [] b d = false := by simp [headOk, wHaven]
            simp only [this]
            simp [rfold]
    · rw [rcut_whole c l hc]
      cases h2 : cutTwo (c :: l) with
      | none => simp
      | some q =>
        obtain ⟨head, ct⟩ := q
        simp only [Option.map_some]
        match hsp : sp 10 head with
        | [] => exact absurd hsp (sp_ne 10 head)
        | [a] =>
          simp only
          cases hf : rfold .zero (-1) [a] with
          | none => rfl
          | some q => obtain ⟨st, k⟩ := q; simp only; rw [if_pos (.inl (rfold_few hf (by simp)))]
        | [a, b] =>
          simp only
          cases hf : rfold .zero (-1) [a, b] with
          | none => rfl
          | some q => obtain ⟨st, k⟩ := q; simp only; rw [if_pos (.inl (rfold_few hf (by simp)))]
        | a :: b :: d :: ls =>
          simp only
          by_cases hlen : 21 < ls.length
          · rw [if_pos hlen]
            cases hf : rfold .zero (-1) (a :: b :: d :: ls) with
            | none => rfl
            | some q => obtain ⟨st, k⟩ := q; simp only; rw [if_pos (.inr (by simp; omega))]
          rw [if_neg hlen, rfold_head]
          by_cases hh : headOk a b d = true
          · rw [if_pos hh, if_pos hh]
            have hs := body_sim short ct ls (.of ct) ⟨behind wName b, behind wVersion d, [], [], [], [], [], []⟩ 0 (by omega) ⟨rfl, rfl, rfl, rfl, rfl, rfl⟩
            rw [show (0 : Int) + 2 = 2 from rfl] at hs
            cases hp : pbody short (.of ct) 0 ls with
            | none =>
              rw [hp] at hs
              rcases hs with hs | ⟨rst, k, hs, he⟩
              · rw [hs]
              · rw [hs]; simp only; rw [he]; split <;> rfl
            | some st =>
              rw [hp] at hs
              obtain ⟨rst, k, hs, hk, hR, n1, n2⟩ := hs
              rw [hs]
              simp only
              have hg : ¬ (k < 2 ∨ 24 < (a :: b :: d :: ls).length) := by simp only [List.length_cons]; omega
              by_cases hleft : st.left = []
              · simp only [hR.eaten, if_pos hleft, if_neg hg]
                exact ⟨rst, rfl, n1, n2, hR.needs, hR.breaks, hR.wakes, hR.runs, hR.wokens⟩
              · simp only [hR.eaten, if_neg hleft, if_neg hg]
          · rw [if_neg hh, if_neg hh]
end Arc
end Go.Proofs.YtgdmgmklncmanaaGreatDoor
/- The walks over what asks whether a path has come before: any list of files. -/
namespace Go.Proofs.YtgdmgmklncmanaaGreatDoor
open Go.RowKit
open Arc (St Cmd S)

theorem same_any (p t x : S) (b : Nat) (w : World) (h : w.cell? ⟨b, 0, none⟩ = some (.string ⟨x.toArray⟩)) :
    Calls Tryz.prog 124 #[.agg #[.string ⟨p.toArray⟩, .string ⟨t.toArray⟩], .pointer (some ⟨b, 0, none⟩)] w fun e w' => e = .returned (.bool (p == x)) ∧ Below w.heap.size w w' := by
  have hb := World.block_lt_of_cell? w _ h
  have hb' : b < w.heap.size := hb
  have hn : ¬ b = w.heap.size := by omega
  go_enter Tryz.func124, Tryz.ntmps124
  go_wp2_with fail
  go_ret
  exact ⟨rfl, (Below.refl _ w).alloc (Nat.le_refl _) _⟩

set_option maxHeartbeats 400000 in
theorem indexF_any (F : List (S × S)) (hF : F.length ≤ 2000) (x : S) (b : Nat) (base : Nat) (v : Value) (w : World) (hv : w.ownsRow base 102 2 v F.length (F.flatMap pairV)) (h : w.cell? ⟨b, 0, none⟩ = some (.string ⟨x.toArray⟩)) :
    Calls Tryz.prog 134 #[v, .func (.func 124) #[] #[.pointer (some ⟨b, 0, none⟩)]] w fun e w' => ∃ i : Int, e = .returned (.int .i64 i) ∧ decide (0 ≤ i) = (F.any fun f => f.1 == x) ∧ Below w.heap.size w w' := by
  obtain ⟨n, hn⟩ : ∃ n, F.length = n := ⟨_, rfl⟩
  rw [hn] at hv hF
  have HN := hide hn
  obtain ⟨ao, c, rfl⟩ := slice_form hv
  have hb : b < w.heap.size := World.block_lt_of_cell? w _ h
  clear hn
  go_enter Tryz.func134, Tryz.ntmps134
  go_wp2_with fail
  go_loopw [8] (fun i wr => ∃ k : Nat, k ≤ n ∧ i = .int .i64 k ∧ Hid ((F.take k).any (fun f => f.1 == x) = false) ∧ Hid (Below w.heap.size w wr)) (fun i _ => n - (intOf i).toNat)
  case atStart => exact ⟨0, by omega, rfl, hide rfl, hide (Below.refl _ _)⟩
  case round =>
    obtain ⟨k, hk, rfl, HA, HB⟩ := hrel
    by_cases hlt : k < n
    · have b1 : (k : Int) < (n : Int) := by omega
      have hkl : k < F.length := by rw [HN.out]; exact hlt
      obtain ⟨g, cap, hv2⟩ := own_form hv (by omega)
      cases hv2
      have hgl := (hv.lt g rfl).2
      obtain ⟨p, hp⟩ : ∃ p, F.getD k ([], []) = p := ⟨_, rfl⟩
      obtain ⟨p1, p2⟩ := p
      have hpa := pair_at F k hkl
      rw [hp] at hpa
      have d1 : wr.cell? ⟨g, k * 2, none⟩ = some (.string ⟨p1.toArray⟩) := by rw [Nat.mul_comm]; exact (HB.out.cell (p := ⟨g, 2 * k, none⟩) hgl).trans ((hv.cellAt _ (by omega)).trans hpa.1)
      have d2 : wr.cell? ⟨g, k * 2 + 1, none⟩ = some (.string ⟨p2.toArray⟩) := by rw [Nat.mul_comm]; exact (HB.out.cell (p := ⟨g, 2 * k + 1, none⟩) hgl).trans ((hv.cellAt _ (by omega)).trans hpa.2)
      have hx : wr.cell? ⟨b, 0, none⟩ = some (.string ⟨x.toArray⟩) := (HB.out.cell (p := ⟨b, 0, none⟩) hb).trans h
      have hs : (F.take (k + 1)).any (fun f => f.1 == x) = (p1 == x) := by
        rw [List.take_succ_eq_append_getElem hkl, List.any_append, HA.out]
        have : F[k] = (p1, p2) := by rw [← hp]; simp [List.getD, List.getElem?_eq_getElem hkl]
        simp [this]
      have hin : p1 == x → (F.any fun f => f.1 == x) = true := fun e => by
        rw [List.any_eq_true]
        have : F[k] = (p1, p2) := by rw [← hp]; simp [List.getD, List.getElem?_eq_getElem hkl]
        exact ⟨F[k], List.getElem_mem hkl, by rw [this]; exact e⟩
      have HS := hide hs; have HIN := hide hin
      have hbs := HB.out.size
      clear hp hpa hs hin
      cases he : (p1 == x)
      · have HS2 : Hid ((F.take (k + 1)).any (fun f => f.1 == x) = false) := hide (by rw [HS.out, he])
        go_wp2_with (refine (same_any p1 p2 x b _ hx).mono ?_; rintro e w' ⟨he', hb1⟩; rw [he] at he'; subst he')
        go_roundw
        case rel => exact ⟨k + 1, by omega, by go_num, HS2, hide (HB.out.trans (hb1.mono hbs))⟩
        case measure => simp [intOf]; omega
      · have HI2 := hide (HIN.out he)
        go_wp2_with (refine (same_any p1 p2 x b _ hx).mono ?_; rintro e w' ⟨he', hb1⟩; rw [he] at he'; subst he')
        go_ret
        exact ⟨_, rfl, by rw [HI2.out]; simp, HB.out.trans (hb1.mono hbs)⟩
    · obtain rfl : k = n := by omega
      have HA2 : Hid ((F.any fun f => f.1 == x) = false) := hide (by have := HA.out; rwa [List.take_of_length_le (by rw [HN.out]; exact Nat.le_refl _)] at this)
      go_wp2_with fail
      go_ret
      exact ⟨_, rfl, by rw [HA2.out]; rfl, HB.out⟩
set_option maxHeartbeats 400000 in
theorem containsF_any (F : List (S × S)) (hF : F.length ≤ 2000) (x : S) (b : Nat) (base : Nat) (v : Value) (w : World) (hv : w.ownsRow base 102 2 v F.length (F.flatMap pairV)) (h : w.cell? ⟨b, 0, none⟩ = some (.string ⟨x.toArray⟩)) :
    Calls Tryz.prog 123 #[v, .func (.func 124) #[] #[.pointer (some ⟨b, 0, none⟩)]] w fun e w' => e = .returned (.bool (F.any fun f => f.1 == x)) ∧ Below w.heap.size w w' := by
  have H := hide (indexF_any F hF x b base v w hv h)
  clear hv h
  go_enter Tryz.func123, Tryz.ntmps123
  go_wp2_with (go_at_call 134; refine H.out.mono ?_; rintro e w1 ⟨i, rfl, hi, hb⟩)
  go_ret
  exact ⟨rfl, hb⟩
set_option maxHeartbeats 400000 in
theorem hasFile_any (pb : Nat) (nm ve : S) (st : St) (sl : Fin 6 → Value) (x : S) (w : World) (h : PIn pb nm ve st sl w) (hf : st.files.length ≤ 2000) :
    Calls Tryz.prog 112 #[.pointer (some ⟨pb, 0, none⟩), .string ⟨x.toArray⟩] w fun e w' => e = .returned (.bool (st.files.any fun f => f.1 == x)) ∧ Below w.heap.size w w' := by
  have hlt := h.lt
  have k5 := (row_cell h.blk 5).trans (show _ = some (sl 3) from rfl)
  have HO : Hid ((w.alloc (.cells #[.string ⟨x.toArray⟩] 9)).ownsRow (pb + 1) 102 2 (sl 3) st.files.length (st.files.flatMap pairV)) := hide ((h.own 3).alloc _)
  have HC := hide (row_cell (heap_alloc_new w (.cells #[.string ⟨x.toArray⟩] 9)) 0)
  have hn : ¬ pb = w.heap.size := by omega
  clear h
  go_enter Tryz.func112, Tryz.ntmps112
  go_wp2_with (go_at_call 123; refine (containsF_any st.files hf x w.heap.size (pb + 1) (sl 3) _ HO.out HC.out).mono ?_; rintro e w1 ⟨rfl, hb⟩)
  go_ret
  exact ⟨rfl, ((Below.refl _ _).alloc (Nat.le_refl _) _).trans (hb.mono (by simp))⟩
end Go.Proofs.YtgdmgmklncmanaaGreatDoor
/- The walk over a size, whole: what is one, and what is none. -/
namespace Go.Proofs.YtgdmgmklncmanaaGreatDoor
open Go.RowKit

/-! ### Digits, by the library's words -/
theorem dig_in (c : UInt8) : tenD.contains c = Ver.isD c := by
  have hc := c.toNat_lt
  by_cases h : 48 ≤ c.toNat ∧ c.toNat ≤ 57
  · have : c.toNat = 48 ∨ c.toNat = 49 ∨ c.toNat = 50 ∨ c.toNat = 51 ∨ c.toNat = 52 ∨ c.toNat = 53 ∨ c.toNat = 54 ∨ c.toNat = 55 ∨ c.toNat = 56 ∨ c.toNat = 57 := by omega
    rcases this with h | h | h | h | h | h | h | h | h | h <;>
      (rw [show c = UInt8.ofNat c.toNat from (by simp)]; rw [h]; decide +kernel)
  · have h1 : Ver.isD c = false := by
      simp only [Ver.isD, Bool.and_eq_false_iff, decide_eq_false_iff_not]; omega
    rw [h1]
    apply Bool.eq_false_iff.2
    intro hm
    have hm := List.elem_iff.1 hm
    simp only [tenD, List.mem_cons, List.not_mem_nil, or_false] at hm
    rcases hm with h' | h' | h' | h' | h' | h' | h' | h' | h' | h' <;> subst h' <;> exact h (by decide)
theorem dig_val (c : UInt8) (h : Ver.isD c = true) : Lib.digitVal c = some (c.toNat - 48) ∧ 48 ≤ c.toNat ∧ c.toNat ≤ 57 := by
  simp only [Ver.isD, Bool.and_eq_true, decide_eq_true_eq] at h
  refine ⟨by rw [Lib.digitVal, if_pos (by omega)], by omega, by omega⟩

/-! ### What the trimming leaves -/
theorem drop_all (f : UInt8 → Bool) : ∀ l : List UInt8, l.dropWhile f = [] ↔ l.all f = true
  | [] => by simp
  | c :: l => by
    cases h : f c with
    | true => simp [List.dropWhile, h, drop_all f l]
    | false => simp [List.dropWhile, h]
theorem trim_all (x : List UInt8) : Lib.trimS x tenD = [] ↔ x.all Ver.isD = true := by
  have hf : (fun c => tenD.contains c) = Ver.isD := funext dig_in
  unfold Lib.trimS Lib.trimLeftS Lib.trimRightS
  rw [hf, drop_all]
  constructor
  · intro h
    have h2 : x.reverse.dropWhile Ver.isD = [] := by
      cases hd : x.reverse.dropWhile Ver.isD with
      | nil => rfl
      | cons c l =>
        have hn : Ver.isD c = false := by
          have := List.head_dropWhile_not (p := Ver.isD) (l := x.reverse) (by rw [hd]; simp)
          simpa [hd] using this
        rw [hd] at h
        have := List.all_eq_true.1 h c (by simp)
        rw [hn] at this; cases this
    have := (drop_all Ver.isD x.reverse).1 h2
    simpa using this
  · intro h
    have : x.reverse.dropWhile Ver.isD = [] := (drop_all _ _).2 (by simpa using h)
    rw [this]; rfl
/-! ### What the number is -/
theorem dec_val : ∀ (l : List UInt8) (a : Nat), l.all Ver.isD = true → ∃ n, Lib.decFrom a l = some n ∧ (n : Int) = l.foldl (fun a c => 10 * a + ((c.toNat : Int) - 48)) (a : Int)
  | [], a, _ => ⟨a, rfl, rfl⟩
  | c :: l, a, h => by
    simp only [List.all_cons, Bool.and_eq_true] at h
    obtain ⟨hd, h1, h2⟩ := dig_val c h.1
    obtain ⟨n, hn, hv⟩ := dec_val l (a * 10 + (c.toNat - 48)) h.2
    refine ⟨n, by simp [Lib.decFrom, hd, hn], ?_⟩
    rw [hv, List.foldl_cons]
    congr 1
    omega
theorem atoi_val (x : List UInt8) (h0 : 1 ≤ x.length) (h : x.all Ver.isD = true) : Lib.atoi x = some (Ver.val x) := by
  obtain ⟨n, hn, hv⟩ := dec_val x 0 h
  cases x with
  | nil => simp at h0
  | cons c l =>
    simp only [List.all_cons, Bool.and_eq_true] at h
    obtain ⟨-, h1, h2⟩ := dig_val c h.1
    have c1 : (c == 45) = false := by
      apply beq_eq_false_iff_ne.2; rintro rfl; exact absurd h1 (by decide)
    have c2 : (c == 43) = false := by
      apply beq_eq_false_iff_ne.2; rintro rfl; exact absurd h1 (by decide)
    simp only [Lib.atoi, c1, c2, Lib.decNat, hn]
    simp [hv, Ver.val]
end Go.Proofs.YtgdmgmklncmanaaGreatDoor
