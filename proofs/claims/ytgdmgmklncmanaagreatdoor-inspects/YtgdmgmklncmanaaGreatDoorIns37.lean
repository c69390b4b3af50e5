/- Of Ins: ParAny, InsW7, InsW3, InsW4, FarW. -/
import Derived.Test.YtgdmgmklncmanaaGreatDoorIns36
import Derived.Test.YtgdmgmklncmanaaGreatDoorIns14
import Derived.Test.YtgdmgmklncmanaaGreatDoorIns17
import Derived.Test.YtgdmgmklncmanaaGreatDoorIns31
import Derived.Test.YtgdmgmklncmanaaGreatDoorIns32
import Derived.Test.YtgdmgmklncmanaaGreatDoorIns9
import Derived.Test.YtgdmgmklncmanaaGreatDoorIns30
/- An archive taken apart, any text; and what Inspect says of it. -/
namespace Go.Proofs.YtgdmgmklncmanaaGreatDoor
open Go.RowKit
open Arc (St Cmd S)

theorem cutTwo_le : ∀ (x u v : S), cutTwo x = some (u, v) → u.length + v.length ≤ x.length
  | [], u, v, h => by simp [cutTwo] at h
  | c :: l, u, v, h => by
    by_cases hc : c = 10
    · subst hc
      match l with
      | [] => simp [cutTwo] at h
      | e :: q =>
        by_cases he : e = 10
        · subst he
          rw [show cutTwo (10 :: 10 :: q) = some ([], q) from by unfold cutTwo; rfl] at h
          simp at h
          obtain ⟨rfl, rfl⟩ := h
          simp; omega
        · rw [Arc.cutTwo_ten e q he] at h
          cases h2 : cutTwo (e :: q) with
          | none => rw [h2] at h; simp at h
          | some r =>
            obtain ⟨r1, r2⟩ := r
            rw [h2] at h
            simp at h
            have := cutTwo_le (e :: q) r1 r2 h2
            rw [← h.1, ← h.2]
            simp at this ⊢; omega
    · rw [Arc.cutTwo_one c l hc] at h
      cases h2 : cutTwo l with
      | none => rw [h2] at h; simp at h
      | some r =>
        obtain ⟨r1, r2⟩ := r
        rw [h2] at h
        simp at h
        have := cutTwo_le l r1 r2 h2
        rw [← h.1, ← h.2]
        simp at this ⊢; omega

/-- All paths are short. -/
def Paths (st : St) : Prop := ∀ p ∈ st.files, p.1.length ≤ 2000
theorem pline_paths {f : S → S} {st st' : St} {k : Int} {rest : List S} (hyp : Arc.pline f st k rest = some st') (hr : ∀ y ∈ rest, y.length ≤ 2000) (hl : Paths st) : Paths st' := by
  rw [pline_is] at hyp
  repeat' split at hyp
  all_goals first
    | (cases hyp; done)
    | (cases hyp; exact hl)
    | (cases hyp
       intro p hp
       rcases List.mem_append.1 hp with hp | hp
       · exact hl p hp
       · simp at hp
         subst hp
         exact hr _ (by simp))
theorem pbody_paths (f : S → S) : ∀ (ls : List S) (st st' : St) (la : Int) (n : Nat), (∀ y ∈ ls, y.length ≤ 2000) → Arc.pbody f st la ls = some st' → PLe st n → Paths st → PLe st' (n + ls.length) ∧ Paths st'
  | [], st, st', la, n, hy, h, h1, h2 => by cases h; exact ⟨h1, h2⟩
  | l :: ls, st, st', la, n, hy, h, h1, h2 => by
    obtain ⟨a, r, har⟩ := sp_head l
    rw [pbody_cons f st la l a r har ls] at h
    split at h
    · cases h
    · cases hp : Arc.pline f st (kd a) r with
      | none => rw [hp] at h; cases h
      | some st1 =>
        rw [hp] at h
        simp only at h
        have hl := hy l (by simp)
        have := pbody_paths f ls st1 st' (kd a) (n + 1) (fun y q => hy y (by simp [q])) h (pline_le hp h1) (pline_paths hp (fun y q => by have := sp_le 32 l y (by rw [har]; simp [q]); omega) h2)
        rw [List.length_cons, show n + (ls.length + 1) = n + 1 + ls.length from by omega]
        exact this

/-- What taking apart leaves. -/
def PaPost (o : Option (S × S × St)) (w : World) : Ending → World → Prop := fun e w' => match o with
  | none => e = .returned (.tuple #[.agg #[.string ⟨#[]⟩, .string ⟨#[]⟩, .slice none 0 0, .slice none 0 0, .slice none 0 0, .slice none 0 0, .slice none 0 0, .slice none 0 0], .bool false]) ∧ Below w.heap.size w w'
  | some (nm, ve, st) => ∃ sl : Fin 6 → Value, e = .returned (.tuple #[.agg #[strV nm, strV ve, sl 0, sl 1, sl 2, sl 3, sl 4, sl 5], .bool true]) ∧ (∀ i, w'.ownsRow w.heap.size (pty i) (psz i) (sl i) (prow st i).1 (prow st i).2) ∧ Below w.heap.size w w'

theorem parse_any (x : S) (K : Nat → Int) (mx : Int) (w : World) (hw9 : 9 ≤ w.heap.size) (hm : w.cell? ⟨0, 0, none⟩ = some (.int .i64 mx)) (hK : ∀ i : Nat, i < 64 → w.cell? ⟨3, i, none⟩ = some (.int .u32 (K i))) :
    Calls Tryz.prog 18 #[.string ⟨x.toArray⟩] w (PaPost (Arc.parse (short K) x) w) := by
  rw [Arc.parse]
  by_cases hx : 2000 < x.length
  · rw [if_pos hx]; exact parse_long x hx w
  rw [if_neg hx]
  have hx' : x.length ≤ 2000 := by omega
  cases hcut : cutTwo x with
  | none => exact parse_nocut x hx' hcut mx w hw9 hm
  | some q =>
    obtain ⟨head, contents⟩ := q
    have hle := cutTwo_le x head contents hcut
    have hhl : head.length ≤ 2000 := by omega
    have hcl : contents.length ≤ 2000 := by omega
    simp only
    match hsp : sp 10 head with
    | [] => exact absurd hsp (sp_ne 10 head)
    | [a] => exact parse_few x hx' head contents hcut hhl (by rw [hsp]; simp) mx w hw9 hm
    | [a, b] => exact parse_few x hx' head contents hcut hhl (by rw [hsp]; simp) mx w hw9 hm
    | a :: b :: d :: L =>
      simp only
      by_cases hlen : 21 < L.length
      · rw [if_pos hlen]; exact parse_many x hx' head contents hcut hhl (by rw [hsp]; simp; omega) mx w hw9 hm
      rw [if_neg hlen]
      have hL : L.length ≤ 21 := by omega
      have hll : ∀ y ∈ L, y.length ≤ 2000 := fun y q => by have := sp_le 10 head y (by rw [hsp]; simp [q]); omega
      have hbl : b.length ≤ 2000 := by have := sp_le 10 head b (by rw [hsp]; simp); omega
      by_cases hok : Arc.headOk a b d = true
      · rw [if_pos hok]
        cases hbody : Arc.pbody (short K) (.of contents) 0 L with
        | none =>
          have hL0 : 1 ≤ L.length := by
            match L with
            | [] => cases hbody
            | _ :: _ => simp
          exact parse_body1 x head contents a b d L K mx w hx' hcut hhl hcl hsp hL hL0 hll hbl hw9 hok hbody hm hK
        | some st =>
          simp only
          by_cases hleft : st.left = []
          · rw [if_pos hleft]
            by_cases hL0 : L.length = 0
            · exact parse_ok0 x head contents a b d L K mx w hx' hcut hhl hcl hsp hL hL0 hll hbl hw9 hok st hbody hleft hm hK
            · exact parse_ok1 x head contents a b d L K mx w hx' hcut hhl hcl hsp hL (by omega) hll hbl hw9 hok st hbody hleft hm hK
          · rw [if_neg hleft]
            have hl2 : (st.left == []) = false := by simpa using hleft
            by_cases hL0 : L.length = 0
            · exact parse_left0 x head contents a b d L K mx w hx' hcut hhl hcl hsp hL hL0 hll hbl hw9 hok st hbody hl2 hm hK
            · exact parse_left1 x head contents a b d L K mx w hx' hcut hhl hcl hsp hL (by omega) hll hbl hw9 hok st hbody hl2 hm hK
      · rw [if_neg hok]
        exact parse_head x head contents a b d L mx w hx' hcut hhl hsp hL hbl hw9 (by simpa using hok) hm

/-- Of an archive that is well formed: few files, short paths, name and version. -/
theorem parse_fits {f : S → S} {x nm ve : S} {st : St} (h : Arc.parse f x = some (nm, ve, st)) : nm.length ≤ 2000 ∧ ve.length ≤ 2000 ∧ PLe st 21 ∧ Paths st := by
  rw [Arc.parse] at h
  by_cases hx : 2000 < x.length
  · rw [if_pos hx] at h; cases h
  rw [if_neg hx] at h
  cases hcut : cutTwo x with
  | none => rw [hcut] at h; cases h
  | some q =>
    obtain ⟨head, contents⟩ := q
    have hle := cutTwo_le x head contents hcut
    rw [hcut] at h
    simp only at h
    match hsp : sp 10 head with
    | [] => rw [hsp] at h; cases h
    | [a] => rw [hsp] at h; cases h
    | [a, b] => rw [hsp] at h; cases h
    | a :: b :: d :: L =>
      rw [hsp] at h
      simp only at h
      by_cases hlen : 21 < L.length
      · rw [if_pos hlen] at h; cases h
      rw [if_neg hlen] at h
      by_cases hok : Arc.headOk a b d = true
      · rw [if_pos hok] at h
        cases hbody : Arc.pbody f (.of contents) 0 L with
        | none => rw [hbody] at h; cases h
        | some st' =>
          rw [hbody] at h
          simp only at h
          split at h
          · simp only [Option.some.injEq, Prod.mk.injEq] at h
            obtain ⟨rfl, rfl, rfl⟩ := h
            have hb : b.length ≤ 2000 := by have := sp_le 10 head b (by rw [hsp]; simp); omega
            have hd : d.length ≤ 2000 := by have := sp_le 10 head d (by rw [hsp]; simp); omega
            obtain ⟨g1, g2⟩ := pbody_paths f L (.of contents) _ 0 0 (fun y q => by have := sp_le 10 head y (by rw [hsp]; simp [q]); omega) hbody ⟨by simp [St.of], by simp [St.of], by simp [St.of], by simp [St.of], by simp [St.of], by simp [St.of], by simp [St.of]; omega⟩ (fun p hp => by simp [St.of] at hp)
            refine ⟨?_, ?_, ?_, g2⟩
            · unfold Arc.behind; split
              · rw [List.length_drop]; omega
              · exact hb
            · unfold Arc.behind; split
              · rw [List.length_drop]; omega
              · exact hd
            · obtain ⟨k1, k2, k3, k4, k5, k6, k7⟩ := g1
              exact ⟨by omega, by omega, by omega, by omega, by omega, by omega, k7⟩
          · cases h
      · rw [if_neg hok] at h; cases h

/-- What Inspect leaves. -/
def InPost (o : Option (S × S × St)) (w : World) : Ending → World → Prop := fun e w' => match o with
  | none => e = .returned (.tuple #[.agg noInfo, .int .i64 3]) ∧ Below w.heap.size w w'
  | some (nm, ve, st) => ∃ o, e = .returned (.tuple #[.agg #[.string ⟨nm.toArray⟩, .string ⟨ve.toArray⟩, .int .i64 st.needs.length, .int .i64 st.breaks.length, .int .i64 st.wakes.length, .int .i64 st.files.length, .int .i64 st.runs.length, .int .i64 st.wokens.length, o], .int .i64 0])
      ∧ w'.ownsRow w.heap.size 9 1 o st.files.length (pathV st.files st.files.length) ∧ Below w.heap.size w w'
theorem inspect_any (x : S) (K : Nat → Int) (mx : Int) (w : World) (hw9 : 9 ≤ w.heap.size) (hm : w.cell? ⟨0, 0, none⟩ = some (.int .i64 mx)) (hK : ∀ i : Nat, i < 64 → w.cell? ⟨3, i, none⟩ = some (.int .u32 (K i))) :
    Calls Tryz.prog 9 #[.string ⟨x.toArray⟩] w (InPost (Arc.parse (short K) x) w) := by
  have hall : ∀ w1, Below w.heap.size w w1 → w1.heap.size = w.heap.size + 1 → Calls Tryz.prog 18 #[.string ⟨x.toArray⟩] w1 (PaPost (Arc.parse (short K) x) w1) := fun w1 hb hs =>
    parse_any x K mx w1 (by omega) ((hb.cell (p := ⟨0, 0, none⟩) (World.block_lt_of_cell? w _ hm)).trans hm) (fun i hi => (hb.cell (p := ⟨3, i, none⟩) (World.block_lt_of_cell? w _ (hK i hi))).trans (hK i hi))
  cases hp : Arc.parse (short K) x with
  | none =>
    rw [hp] at hall
    exact inspect_bad x w hall
  | some q =>
    obtain ⟨nm, ve, st⟩ := q
    rw [hp] at hall
    obtain ⟨h1, h2, h3, h4⟩ := parse_fits hp
    exact inspect_ok x nm ve st w h1 h2 (by have := h3.2.2.2.1; omega) h4 hall
end Go.Proofs.YtgdmgmklncmanaaGreatDoor
/- The walk over the law itself: an archive that is none. -/
namespace Go.Proofs.YtgdmgmklncmanaaGreatDoor
open Go.RowKit
open Arc (St RSt RCmd S)

/-- The document's reading, any text. -/
theorem readd_any (x : S) (w : World) : Calls Tryz.prog 10 #[.string ⟨x.toArray⟩] w (RdPost x (Arc.rread (short kTab) x) w) := by
  by_cases hx : 2000 < x.length
  · have e : Arc.rread (short kTab) x = none := by rw [Arc.rread, if_pos hx]
    rw [e]; exact read_long x hx w
  · exact read_any x (by omega) w

set_option maxRecDepth 100000 in
set_option maxHeartbeats 4000000 in
theorem inspects_none (x : S) (hp : Arc.parse (short kTab) x = none) (mx : Int) (w : World) (hw9 : 9 ≤ w.heap.size) (hm : w.cell? ⟨0, 0, none⟩ = some (.int .i64 mx)) (hK : ∀ i : Nat, i < 64 → w.cell? ⟨3, i, none⟩ = some (.int .u32 (kTab i))) :
    Calls Tryz.prog 4 #[.string ⟨x.toArray⟩] w fun e w' => e = .returned (.bool true) ∧ Below w.heap.size w w' := by
  have hr : Arc.rread (short kTab) x = none := by
    have := Arc.parse_rread (short kTab) x
    rw [hp] at this; exact this
  have HP := hide (packed_any mx w hw9 hm hK)
  have HI : Hid (∀ w1, Below w.heap.size w w1 → Calls Tryz.prog 9 #[.string ⟨x.toArray⟩] w1 fun e w' => e = .returned (.tuple #[.agg noInfo, .int .i64 3]) ∧ Below w1.heap.size w1 w') := hide fun w1 hb => by
    have := inspect_any x kTab mx w1 (Nat.le_trans hw9 hb.size) ((hb.cell (p := ⟨0, 0, none⟩) (World.block_lt_of_cell? w _ hm)).trans hm) (fun i hi => (hb.cell (p := ⟨3, i, none⟩) (World.block_lt_of_cell? w _ (hK i hi))).trans (hK i hi))
    rw [hp] at this
    exact this
  have HR : Hid (∀ w1, Calls Tryz.prog 10 #[.string ⟨x.toArray⟩] w1 fun e w' => e = .returned (.pointer none) ∧ Below w1.heap.size w1 w') := hide fun w1 => by
    have := readd_any x w1
    rw [hr] at this
    exact this
  clear hm hK hp hr
  go_enter Tryz.func4, Tryz.ntmps4
  go_wp2_with fail
  refine HP.out.mono ?_
  rintro e w1 ⟨rfl, hb1⟩
  have HB1 := hide hb1
  clear hb1
  go_wp2_with fail
  refine (HI.out _ HB1.out).mono ?_
  rintro e w2 ⟨rfl, hb2⟩
  have HB2 := hide (HB1.out.trans (hb2.mono HB1.out.size))
  clear hb2 HB1
  simp only [noInfo]
  go_wp2_with fail
  have hs2 := HB2.out.size
  have hrow := heap_alloc_new w2 (.cells noInfo 32)
  have hba := HB2.out.alloc hs2 (.cells noInfo 32)
  simp only [noInfo] at hrow hba
  refine (HR.out _).mono ?_
  rintro e w3 ⟨rfl, hb3⟩
  have hrow3 := (hb3.block w2.heap.size (by simp)).trans hrow
  have hl3 : w2.heap.size < w3.heap.size := (Array.getElem?_eq_some_iff.1 hrow3).1
  obtain ⟨v0, v1, v2, v3, v4, v5, v6, v7, v8, -⟩ := nine_all hrow3
  have HB3 := hide (hba.trans (hb3.mono hba.size))
  obtain ⟨A, hA⟩ : ∃ A, w2.heap.size = A := ⟨_, rfl⟩
  rw [hA] at hl3 v0 v1 v2 v3 v4 v5 v6 v7 v8 ⊢
  clear hrow hba hrow3 hb3 hA HB2 HI HR HP
  have hne1 : ¬ w3.heap.size = A := by omega
  go_wp2_with fail
  go_ret
  exact ⟨rfl, HB3.out.alloc HB3.out.size _⟩
end Go.Proofs.YtgdmgmklncmanaaGreatDoor
/- A list that its owner has written full of one text: appending to it keeps it, and all that reads the text. -/
namespace Go.Proofs.YtgdmgmklncmanaaGreatDoor
open Go Go.RowKit

/-- The slice v has n elements, each of them M. -/
def Marked (M v : Value) (n : Nat) (w : World) : Prop := ∃ ao c, v = .slice ao n c ∧ (n = 0 ∨ ∃ g, ao = some ⟨g, 0, none⟩ ∧ g < w.heap.size ∧ ∀ j, j < n → w.cell? ⟨g, j, none⟩ = some M)
/-- What reads M reads M yet. -/
def Keeps (M : Value) (w w' : World) : Prop := w.heap.size ≤ w'.heap.size ∧ ∀ b j, w.cell? ⟨b, j, none⟩ = some M → w'.cell? ⟨b, j, none⟩ = some M
theorem Keeps.refl (M : Value) (w : World) : Keeps M w w := ⟨Nat.le_refl _, fun _ _ h => h⟩
theorem Keeps.trans {M : Value} {w1 w2 w3 : World} (h : Keeps M w1 w2) (k : Keeps M w2 w3) : Keeps M w1 w3 := ⟨Nat.le_trans h.1 k.1, fun b j q => k.2 b j (h.2 b j q)⟩
theorem Keeps.below {M : Value} {w w' : World} (h : Below w.heap.size w w') : Keeps M w w' := ⟨h.size, fun b j q => (h.cell (p := ⟨b, j, none⟩) (World.block_lt_of_cell? w _ q)).trans q⟩
theorem Marked.keeps {M v : Value} {n : Nat} {w w' : World} (h : Marked M v n w) (k : Keeps M w w') : Marked M v n w' := by
  obtain ⟨ao, c, rfl, h⟩ := h
  refine ⟨ao, c, rfl, ?_⟩
  rcases h with h | ⟨g, h1, h2, h3⟩
  · exact .inl h
  · exact .inr ⟨g, h1, Nat.lt_of_lt_of_le h2 k.1, fun j hj => k.2 g j (h3 j hj)⟩
theorem marked_own {M v : Value} {n base : Nat} {e : TypeId} {w : World} (h : w.ownsRow base e 1 v n (List.replicate n M)) : Marked M v n w := by
  rcases h.2 with ⟨rfl, rfl⟩ | ⟨g, cap, cur, rfl, hb, hg, h1, h2, h3, h4⟩
  · exact ⟨none, 0, rfl, .inl rfl⟩
  · refine ⟨_, cap, rfl, .inr ⟨g, rfl, (Array.getElem?_eq_some_iff.1 hg).1, fun j hj => ?_⟩⟩
    rw [h.cellAt j (by omega)]
    simp [hj]
theorem keeps_alloc (M : Value) (w : World) (o : Obj) : Keeps M w (w.drew.alloc o) := by
  refine ⟨by simp, fun b j q => ?_⟩
  have hb := World.block_lt_of_cell? w _ q
  have e : (w.drew.alloc o).heap[b]? = w.heap[b]? := heap_alloc_old w.drew o hb
  unfold World.cell? at q ⊢
  simp only at q ⊢
  rw [e]; exact q
theorem marked_new (M : Value) (w : World) (k c : Nat) (z : Array Value) (e : TypeId) (r : Array Value) (hr : r = (List.replicate k M).toArray ++ z) : Marked M (.slice (some ⟨w.heap.size, 0, none⟩) k c) k (w.drew.alloc (.cells r e)) := by
  refine ⟨_, c, rfl, .inr ⟨w.heap.size, rfl, by simp, fun j hj => ?_⟩⟩
  have e1 : (w.drew.alloc (.cells r e)).heap[w.heap.size]? = some (.cells r e (0, 0)) := heap_alloc_new w.drew _
  subst hr
  unfold World.cell?
  simp only [e1]
  simp [Array.getElem?_append, hj]

section
variable {P : Program} (w : World)
theorem append_M (base : Nat) (t ty e : TypeId) (i : TypeInfo) (z : Value) (ht : P.underlying t = some (.slice e)) (hi : P.info? e = some i) (hz : i.zero = some z)
    (hsize : i.size = 1) (hby : i.bytes = 16) (M : Value) (hM1 : M.oneCell' = true)
    (v : Value) (n : Nat) (hn : n ≤ 1000) (hown : w.ownsRow base e 1 v n (List.replicate n M))
    (a : Addr) (m c : Nat) (hm0 : 0 < m) (hm : m ≤ 3) (hnews : ∀ j, j < m → w.cell? (a.add j) = some M) :
    ∃ v' w', (Builtin.append_ #[t, t] ty #[v, .slice (some a) m c]).run P w = .ok v' w' ∧ w'.ownsRow base e 1 v n (List.replicate n M) ∧ Marked M v' (n + m) w' ∧ Keeps M w w' ∧ w.grownBy w' v.ownBlock := by
  have hnews' : ∀ j u, (List.replicate m M)[j]? = some u → w.cell? (a.add j) = some u := fun j u hu => by
    rw [List.getElem?_replicate] at hu
    split at hu
    · cases hu; exact hnews j ‹_›
    · cases hu
  rcases hown.2 with ⟨rfl, rfl⟩ | ⟨g, cap, cur, rfl, hbg, hg, hnc, hcm, hcs, htake⟩
  · have hr := run_append_nil (P := P) w t ty e i z ht hi hz a m c (List.replicate m M) (by simp [hsize]) hnews' hm0 (by omega) (by rw [hby]; omega)
    refine ⟨_, _, hr, World.ownsRow_nil _ _ _ _, ?_, keeps_alloc M w _, ⟨rfl, rfl, rfl, by simp, fun k hk _ => heap_alloc_old w.drew _ hk⟩⟩
    rw [Nat.zero_add]
    exact marked_new M w m _ _ e _ rfl
  · simp only [Nat.mul_one] at hcs htake
    by_cases hroom : n + m ≤ cap
    · have hr := run_append_room (P := P) w t ty e i ht hi g n cap cur hg a m c (List.replicate m M) (by simp [hsize]) hnews' (fun u hu => by rw [(List.mem_replicate.1 hu).2]; exact hM1) hroom (by rw [hsize, List.length_replicate]; omega)
      rw [hsize, Nat.mul_one, List.length_replicate, htake] at hr
      have hnew := setRow_heap w g cur (List.replicate n M ++ List.replicate m M ++ cur.toList.drop (n + m)).toArray e (0, 0) hg
      have hlt : g < w.heap.size := (Array.getElem?_eq_some_iff.1 hg).1
      have hcell : ∀ j, (w.setRow g (List.replicate n M ++ List.replicate m M ++ cur.toList.drop (n + m)).toArray).cell? ⟨g, j, none⟩ = if j < n + m then some M else w.cell? ⟨g, j, none⟩ := fun j => by
        by_cases hj : j < n + m
        · rw [if_pos hj]
          simp only [World.cell?, hnew]
          rw [List.replicate_append_replicate]
          simp [List.getElem?_append, hj]
        · rw [if_neg hj]
          simp only [World.cell?, hnew, hg]
          rw [List.replicate_append_replicate]
          simp [List.getElem?_append, hj]
          rw [show n + m + (j - (n + m)) = j from by omega]
      refine ⟨_, _, hr, ⟨by simp, .inr ⟨g, cap, _, rfl, hbg, hnew, hnc, hcm, ?_, ?_⟩⟩, ⟨_, cap, rfl, .inr ⟨g, rfl, by simpa using hlt, fun j hj => by rw [hcell j, if_pos hj]⟩⟩, ⟨by simp, fun b j q => ?_⟩, ⟨rfl, rfl, rfl, by simp, fun k _ hk => setRow_other w g k _ (fun e => hk (by simp [Value.ownBlock, e]))⟩⟩
      · simp only [List.size_toArray, List.length_append, List.length_replicate, List.length_drop, Array.length_toList]
        omega
      · rw [List.append_assoc, Nat.mul_one]
        exact List.take_left' (by simp)
      · by_cases hb : b = g
        · subst hb
          rw [hcell j]
          split
          · rfl
          · exact q
        · have e1 := setRow_other w g b (List.replicate n M ++ List.replicate m M ++ cur.toList.drop (n + m)).toArray hb
          unfold World.cell? at q ⊢
          simp only at q ⊢
          rw [e1]; exact q
    · have holds : ∀ j u, (List.replicate n M)[j]? = some u → w.cell? ((⟨g, 0, none⟩ : Addr).add j) = some u := by
        intro j u hu
        have hadd : (⟨g, 0, none⟩ : Addr).add j = ⟨g, j, none⟩ := by unfold Addr.add; split <;> simp_all
        rw [hadd]
        rw [← htake, List.getElem?_take] at hu
        split at hu
        · simpa [World.cell?, hg] using hu
        · cases hu
      have hr := run_append_grow (P := P) w t ty e i z ht hi hz ⟨g, 0, none⟩ n cap (List.replicate n M) (by simp [hsize]) holds a m c (List.replicate m M) (by simp [hsize]) hnews' (by omega) (by omega) (growslice_fits (by omega) (by rw [hby]; omega))
      have hlt : g < w.heap.size := (Array.getElem?_eq_some_iff.1 hg).1
      refine ⟨_, _, hr, ⟨by simp, .inr ⟨g, cap, cur, rfl, hbg, (heap_alloc_old w.drew _ hlt).trans hg, hnc, hcm, by rw [Nat.mul_one]; exact hcs, by rw [Nat.mul_one]; exact htake⟩⟩, ?_, keeps_alloc M w _, ⟨rfl, rfl, rfl, by simp, fun k hk _ => heap_alloc_old w.drew _ hk⟩⟩
      exact marked_new M w (n + m) _ _ e _ (by rw [← List.replicate_append_replicate, ← List.append_toArray])

theorem wpList_append_M {ops : Array Oper} {rest : List Oper} {o : Oper} {a : Act} {Q : Exit → Act → World → Prop} (hgd : o.guard = none) (s x : Operand) (t : TypeId)
    (ho : o.op = .call { callee := .builtin .append, args := #[s, x], argTypes := #[t, t] })
    (base : Nat) (e : TypeId) (i : TypeInfo) (z : Value) (ht : P.underlying t = some (.slice e)) (hi : P.info? e = some i) (hz : i.zero = some z)
    (hsize : i.size = 1) (hby : i.bytes = 16) (M : Value) (hM1 : M.oneCell' = true)
    (v : Value) (n : Nat) (hn : n ≤ 1000) (hs : a.eval s = v) (hown : w.ownsRow base e 1 v n (List.replicate n M))
    (ad : Addr) (m c : Nat) (hx : a.eval x = .slice (some ad) m c) (hm0 : 0 < m) (hm : m ≤ 3) (hnews : ∀ j, j < m → w.cell? (ad.add j) = some M)
    (h : ∀ v' w', w'.ownsRow base e 1 v n (List.replicate n M) → Marked M v' (n + m) w' → Keeps M w w' → w.grownBy w' v.ownBlock → wpList P ops Q rest (a.put o.dst v') w') : wpList P ops Q (o :: rest) a w := by
  refine wpList_plain hgd fun K hK => ?_
  obtain ⟨v', w', hr, h2, h3, h4, h5⟩ := append_M (P := P) w base t o.type e i z ht hi hz hsize hby M hM1 v n hn hown ad m c hm0 hm hnews
  unfold Oper.wp execOp
  simp only [ho, resolve, invoke, builtin, Sem.run_bind, Sem.run_pure, Result.andThen_ok, List.map_toArray, List.map_cons, List.map_nil, hs, hx, hr]
  exact hK _ _ (h v' w' h2 h3 h4 h5)
end
end Go.Proofs.YtgdmgmklncmanaaGreatDoor
/- The walk over an owner's marks. -/
namespace Go.Proofs.YtgdmgmklncmanaaGreatDoor
open Go.RowKit

/-- The mark. -/
def mk1 : List UInt8 := [35, 0, 0, 1]
set_option maxRecDepth 100000 in
theorem mark_any (w : World) : Calls Tryz.prog 26 #[.int .i64 1] w fun e w' => e = .returned (.string ⟨mk1.toArray⟩) ∧ Below w.heap.size w w' := by
  have hcv := conv_lit mk1 w #[.int .u8 35, .int .u8 0, .int .u8 0, .int .u8 1] (by simp [bcells, mk1]) 4 rfl
  go_enter Tryz.func26, Tryz.ntmps26
  go_wp2_with fail
  go_ret
  exact ⟨rfl, (Below.refl _ w).alloc (Nat.le_refl _) _⟩
theorem set_mark (M : Value) (k : Nat) (xs : List Value) (hk : k < xs.length) : (List.replicate k M ++ xs.drop k).set k M = List.replicate (k + 1) M ++ xs.drop (k + 1) := by
  rw [List.set_append_right _ _ (by simp), List.length_replicate, Nat.sub_self, List.drop_eq_getElem_cons hk, List.set_cons_zero, List.replicate_succ', List.append_assoc]
  rfl
/-- The block of a World. -/
def WB (wb : Nat) (a0 a1 n k : Value) (w : World) : Prop := w.heap[wb]? = some (.cells #[a0, a1, n, k] 41 (0, 0))

theorem WB.alloc {wb : Nat} {a0 a1 n k : Value} {w : World} (h : WB wb a0 a1 n k w) (o : Obj) : WB wb a0 a1 n k (w.alloc o) := (Below.heap_alloc w o wb (lt_of_block h)).trans h
theorem WB.grown {wb : Nat} {a0 a1 n k : Value} {w w' : World} {row : Option Nat} (h : WB wb a0 a1 n k w) (hg : w.grownBy w' row) (hr : ∀ q, row = some q → wb < q) : WB wb a0 a1 n k w' :=
  (hg.block wb (lt_of_block h) (fun e => by have := hr wb e.symm; omega)).trans h
theorem marks_new (w : World) (M : Value) (m : Nat) (t : TypeId) (cs : Array Value) (hcs : cs = (List.replicate m M).toArray) : ∀ j, j < m → (w.alloc (.cells cs t)).cell? ((⟨w.heap.size, 0, none⟩ : Addr).add j) = some M := fun j hj => by
  have hadd : (⟨w.heap.size, 0, none⟩ : Addr).add j = ⟨w.heap.size, j, none⟩ := by unfold Addr.add; split <;> simp_all
  rw [hadd, row_cell (heap_alloc_new w _), hcs]
  simp [hj]

theorem WB.drew {wb : Nat} {a0 a1 n k : Value} {w : World} (h : WB wb a0 a1 n k w) : WB wb a0 a1 n k w.drew := h
theorem row_new (w : World) (t : TypeId) (xs : List Value) (cs : Array Value) (hcs : cs = xs.toArray) : ∀ j u, xs[j]? = some u → (w.alloc (.cells cs t)).cell? ((⟨w.heap.size, 0, none⟩ : Addr).add j) = some u := fun j u hu => by
  have hadd : (⟨w.heap.size, 0, none⟩ : Addr).add j = ⟨w.heap.size, j, none⟩ := by unfold Addr.add; split <;> simp_all
  rw [hadd, row_cell (heap_alloc_new w _), hcs]
  simpa using hu
theorem info_kept : (Tryz.prog.info? 85).map (fun i => (i.zero, i.size, i.bytes)) = some (some (.agg #[.int .i64 0, .slice none 0 0, .slice none 0 0, .slice none 0 0]), 4, 80) := by kernel_rfl
/-- A list that is kept. -/
def keptV (v : Value) : List Value := [.int .i64 1, v, .slice none 0 0, .slice none 0 0]
def mkV : Value := .string ⟨mk1.toArray⟩

theorem keptV_one {a : Option Addr} {n c : Nat} : ∀ u ∈ keptV (.slice a n c), u.oneCell' = true := fun u hu => by
  simp only [keptV, List.mem_cons, List.not_mem_nil, or_false] at hu
  rcases hu with rfl | rfl | rfl | rfl <;> rfl
theorem four_one {a b c d : List Value} (h1 : ∀ u ∈ a, u.oneCell' = true) (h2 : ∀ u ∈ b, u.oneCell' = true) (h3 : ∀ u ∈ c, u.oneCell' = true) (h4 : ∀ u ∈ d, u.oneCell' = true) : ∀ u ∈ a ++ b ++ c ++ d, u.oneCell' = true := fun u hu => by
  simp only [List.mem_append] at hu
  rcases hu with ((hu | hu) | hu) | hu
  · exact h1 u hu
  · exact h2 u hu
  · exact h3 u hu
  · exact h4 u hu
end Go.Proofs.YtgdmgmklncmanaaGreatDoor
/- What of the memory has stayed: all blocks but those of a foot. -/
namespace Go.Proofs.YtgdmgmklncmanaaGreatDoor
open Go.RowKit

/-- Below block number B all blocks but those of C are as they were; the streams are; no block has gone. -/
structure Far (B : Nat) (C : Nat → Prop) (w w' : World) : Prop where
  os : w'.os = w.os
  tape : w'.tape = w.tape
  output : w'.output = w.output
  size : w.heap.size ≤ w'.heap.size
  block : ∀ k, k < B → ¬ C k → w'.heap[k]? = w.heap[k]?

theorem Far.refl (B : Nat) (C : Nat → Prop) (w : World) : Far B C w w := ⟨rfl, rfl, rfl, Nat.le_refl _, fun _ _ _ => rfl⟩
theorem Far.trans {B : Nat} {C : Nat → Prop} {a b c : World} (h : Far B C a b) (k : Far B C b c) : Far B C a c :=
  ⟨k.os.trans h.os, k.tape.trans h.tape, k.output.trans h.output, Nat.le_trans h.size k.size, fun i hi hc => (k.block i hi hc).trans (h.block i hi hc)⟩
theorem Far.of {B B' : Nat} {C : Nat → Prop} {w w' : World} (h : Below B' w w') (hB : B ≤ B') : Far B C w w' := ⟨h.os, h.tape, h.output, h.size, fun k hk _ => h.block k (by omega)⟩
theorem Far.mono {B B' : Nat} {C C' : Nat → Prop} {w w' : World} (h : Far B C w w') (hB : B' ≤ B) (hC : ∀ k, k < B' → C k → C' k) : Far B' C' w w' := ⟨h.os, h.tape, h.output, h.size, fun k hk hc => h.block k (by omega) (fun q => hc (hC k hk q))⟩
theorem Far.toBelow {B B' : Nat} {C : Nat → Prop} {w w' : World} (h : Far B C w w') (hB : B' ≤ B) (hC : ∀ k, k < B' → ¬ C k) : Below B' w w' := ⟨h.os, h.tape, h.output, h.size, fun k hk => h.block k (by omega) (hC k hk)⟩
theorem Far.below {B B' : Nat} {C : Nat → Prop} {a w w' : World} (h : Far B C a w) (hb : Below B' w w') (hB : B ≤ B') : Far B C a w' := h.trans (Far.of hb hB)
theorem Far.drew {B : Nat} {C : Nat → Prop} {a w : World} (h : Far B C a w) : Far B C a w.drew := ⟨h.os, h.tape, h.output, h.size, h.block⟩
theorem Far.alloc {B : Nat} {C : Nat → Prop} {a w : World} (h : Far B C a w) (hB : B ≤ w.heap.size) (o : Obj) : Far B C a (w.alloc o) :=
  h.trans ⟨rfl, rfl, rfl, by simp, fun k hk _ => Below.heap_alloc _ _ _ (by omega)⟩
theorem Far.setCell {B : Nat} {C : Nat → Prop} {a w : World} (h : Far B C a w) {p : Addr} (hp : B ≤ p.block ∨ C p.block) (u : Value) : Far B C a (w.setCell p u) :=
  h.trans ⟨rfl, rfl, rfl, by simp [World.setCell], fun k hk hc => Below.heap_setCell _ _ _ _ (fun e => by
    subst e
    rcases hp with hp | hp
    · omega
    · exact hc hp)⟩
theorem Far.grown {B : Nat} {C : Nat → Prop} {a w w' : World} {row : Option Nat} (h : Far B C a w) (hg : w.grownBy w' row) (hB : B ≤ w.heap.size) (hr : ∀ k, row = some k → B ≤ k ∨ C k) : Far B C a w' :=
  h.trans ⟨hg.os, hg.tape, hg.output, hg.size, fun k hk hc => hg.block k (by omega) (fun e => by
    rcases hr k e.symm with h | h
    · omega
    · exact hc h)⟩
theorem Far.cell {B : Nat} {C : Nat → Prop} {w w' : World} (h : Far B C w w') {p : Addr} (hp : p.block < B) (hc : ¬ C p.block) : w'.cell? p = w.cell? p := World.cell?_of_block (w := w) (h.block p.block hp hc)
theorem Far.own {B C : _} {w w' : World} {b0 e size n : Nat} {v : Value} {xs : List Value} (h : Far B C w w') (ho : w.ownsRow b0 e size v n xs) (hB : w.heap.size ≤ B) (hv : ∀ g, v.ownBlock = some g → ¬ C g) : w'.ownsRow b0 e size v n xs := by
  refine ⟨ho.1, ?_⟩
  rcases ho.2 with ⟨rfl, rfl⟩ | ⟨g, cap, cur, rfl, h1, h2, h3⟩
  · exact .inl ⟨rfl, rfl⟩
  · exact .inr ⟨g, cap, cur, rfl, h1, (h.block g (by have := lt_of_block h2; omega) (hv g rfl)).trans h2, h3⟩

theorem Keeps.grown {M : Value} {w w' : World} (h : w.grownBy w' none) : Keeps M w w' := Keeps.below ((Below.refl _ w).grown h (Nat.le_refl _) (fun q hq => by cases hq))
theorem Keeps.drew (M : Value) (w : World) : Keeps M w w.drew := ⟨Nat.le_refl _, fun _ _ h => h⟩
theorem Keeps.alloc (M : Value) (w : World) (o : Obj) : Keeps M w (w.alloc o) := Keeps.below ((Below.refl _ w).alloc (Nat.le_refl _) o)
theorem Keeps.set {M x : Value} {w : World} {b i : Nat} (h : w.cell? ⟨b, i, none⟩ = some x) (hx : x ≠ M) (v : Value) : Keeps M w (w.setCell ⟨b, i, none⟩ v) := by
  refine ⟨by simp, fun b' j q => ?_⟩
  by_cases e : (⟨b, i, none⟩ : Addr) = ⟨b', j, none⟩
  · rw [e, q] at h
    exact absurd (Option.some.inj h).symm hx
  · rw [World.cell?_setCell_other _ _ _ _ e]; exact q
theorem blk_cell' {w : World} {b i : Nat} {o : Obj} (h : b < w.heap.size) : ((w.alloc o).drew).cell? ⟨b, i, none⟩ = w.cell? ⟨b, i, none⟩ := World.cell?_of_block (a := ⟨b, i, none⟩) (Below.heap_alloc w o b h)
theorem WB.grownNe {wb : Nat} {a0 a1 n k : Value} {w w' : World} {row : Option Nat} (h : WB wb a0 a1 n k w) (hg : w.grownBy w' row) (hr : row ≠ some wb) : WB wb a0 a1 n k w' :=
  (hg.block wb (lt_of_block h) (fun e => hr e.symm)).trans h
end Go.Proofs.YtgdmgmklncmanaaGreatDoor
