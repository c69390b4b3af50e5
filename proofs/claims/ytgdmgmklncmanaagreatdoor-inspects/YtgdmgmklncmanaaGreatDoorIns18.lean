/- Of Ins: RdMath2, CmdW2, CmdW3. -/
import Derived.Test.YtgdmgmklncmanaaGreatDoorIns17
import Derived.Test.YtgdmgmklncmanaaGreatDoorIns11
/- Both readings of an archive, the program's and the document's, are one. Plain mathematics. -/
namespace Go.Proofs.YtgdmgmklncmanaaGreatDoor
namespace Arc

/-- Pieces, with the byte d between them. -/
def ic (d : UInt8) : List S → S
  | [] => []
  | [x] => x
  | x :: y :: l => x ++ d :: ic d (y :: l)
theorem ic_sp (d : UInt8) : ∀ x : S, ic d (sp d x) = x
  | [] => rfl
  | c :: l => by
    have ih := ic_sp d l
    rw [sp]
    by_cases h : c = d
    · rw [if_pos h]
      cases e : sp d l with
      | nil => exact absurd e (sp_ne d l)
      | cons a r => rw [e] at ih; rw [ic, ih, h]; rfl
    · rw [if_neg h]
      cases e : sp d l with
      | nil => exact absurd e (sp_ne d l)
      | cons a r =>
        rw [e] at ih
        cases r with
        | nil => rw [ic] at ih; simp [ic, ih]
        | cons b r => rw [ic] at ih; simp [ic, ← ih]

theorem kd_bd (x : S) : 0 ≤ kd x ∧ kd x ≤ 6 := by unfold kd; repeat' split <;> omega
theorem rkd_cases (x : S) : (rkd x = 0 ∧ x = [104, 97, 118, 101, 110] ∧ kd x = 0) ∨ (rkd x = 1 ∧ x = [110, 97, 109, 101] ∧ kd x = 0) ∨ (rkd x = 2 ∧ x = [118, 101, 114, 115, 105, 111, 110] ∧ kd x = 0) ∨ (rkd x = -1 ∧ kd x = 0) ∨ (rkd x = kd x + 2 ∧ 1 ≤ kd x) := by
  by_cases h0 : x = [104, 97, 118, 101, 110]
  · subst h0; left; decide
  by_cases h1 : x = [110, 97, 109, 101]
  · subst h1; right; left; decide
  by_cases h2 : x = [118, 101, 114, 115, 105, 111, 110]
  · subst h2; right; right; left; decide
  have hb := kd_bd x
  by_cases h3 : kd x = 0
  · right; right; right; left; exact ⟨by simp [rkd, h0, h1, h2, h3], h3⟩
  · right; right; right; right; exact ⟨by simp [rkd, h0, h1, h2, h3], by omega⟩

theorem allL_no {f : UInt8 → Bool} {x : S} (h : Ver.allL f x = true) (hf : f 32 = false) : ∀ c ∈ x, c ≠ 32 := by
  intro c hc e
  subst e
  have := List.all_eq_true.1 h _ hc
  rw [hf] at this; cases this
theorem name_no {x : S} (h : Wd.isName x = true) : ∀ c ∈ x, c ≠ 32 := by
  rw [Wd.isName, Bool.and_eq_true] at h
  exact allL_no h.2 (by decide)
theorem cutC_mem {x : S} {c : UInt8} (h : c ∈ x) : c = 58 ∨ c ∈ (Ver.cutC x).1 ∨ c ∈ (Ver.cutC x).2 := by
  unfold Ver.cutC
  by_cases hc : x.contains 58 = true
  · rw [if_pos hc]
    rw [← List.takeWhile_append_dropWhile (p := fun c => c != 58) (l := x)] at h
    rcases List.mem_append.1 h with h | h
    · exact .inr (.inl h)
    · cases hd : x.dropWhile (fun c => c != 58) with
      | nil => rw [hd] at h; simp at h
      | cons a l =>
        rw [hd] at h
        rcases List.mem_cons.1 h with rfl | h
        · left
          have := List.head_dropWhile_not (fun c => c != 58) (show x.dropWhile (fun c => c != 58) ≠ [] by rw [hd]; simp)
          simp only [hd, List.head_cons] at this
          simpa using this
        · exact .inr (.inr (by simpa using h))
  · rw [if_neg hc]; exact .inr (.inr h)
theorem cutM_mem {x : S} {c : UInt8} (h : c ∈ x) : c = 45 ∨ c ∈ (Ver.cutM x).1 ∨ c ∈ (Ver.cutM x).2 := by
  unfold Ver.cutM
  by_cases hc : x.contains 45 = true
  · rw [if_pos hc]
    have h' : c ∈ x.reverse := by simpa using h
    rw [← List.takeWhile_append_dropWhile (p := fun c => c != 45) (l := x.reverse)] at h'
    rcases List.mem_append.1 h' with h | h
    · exact .inr (.inr (by simpa using h))
    · cases hd : x.reverse.dropWhile (fun c => c != 45) with
      | nil => rw [hd] at h; simp at h
      | cons a l =>
        rw [hd] at h
        rcases List.mem_cons.1 h with rfl | h
        · left
          have := List.head_dropWhile_not (fun c => c != 45) (show x.reverse.dropWhile (fun c => c != 45) ≠ [] by rw [hd]; simp)
          simp only [hd, List.head_cons] at this
          simpa using this
        · exact .inr (.inl (by simpa using h))
  · rw [if_neg hc]; exact .inr (.inl h)
theorem fine_no {x : S} (h : Ver.fine x = true) : ∀ c ∈ x, c ≠ 32 := by
  simp only [Ver.fine, Bool.and_eq_true] at h
  obtain ⟨⟨⟨-, hE⟩, hM⟩, hR⟩ := h
  have hM' : Ver.allL Ver.isM (Ver.split3 x).m = true := by
    cases hm : (Ver.split3 x).m with
    | nil => rw [hm] at hM; cases hM
    | cons a l => rw [hm, Ver.okM, Bool.and_eq_true] at hM; exact hM.2
  have hR' : Ver.allL Ver.isR (Ver.split3 x).r = true := by
    cases hm : (Ver.split3 x).r with
    | nil => rw [hm] at hR; cases hR
    | cons a l => rw [hm] at hR; exact hR
  have hE' : Ver.allL Ver.isD (Ver.split3 x).e = true := by
    simp only [Ver.okE, Bool.and_eq_true] at hE; exact hE.2
  intro c hc e
  subst e
  rcases cutC_mem hc with h | h | h
  · exact absurd h (by decide)
  · exact allL_no hE' (by decide) _ h rfl
  · rcases cutM_mem h with h | h | h
    · exact absurd h (by decide)
    · exact allL_no hM' (by decide) _ h rfl
    · exact allL_no hR' (by decide) _ h rfl

/-! ### The first three lines -/
theorem sp_two {u v : S} {b : S} (hu : ∀ c ∈ u, c ≠ 32) : (sp 32 b).head! = u → (sp 32 b).tail = [v] → b = u ++ 32 :: v := by
  intro h1 h2
  have := ic_sp 32 b
  cases e : sp 32 b with
  | nil => exact absurd e (sp_ne 32 b)
  | cons a r =>
    rw [e] at h1 h2 this
    simp at h1 h2
    subst h1 h2
    rw [ic, ic] at this
    exact this.symm
theorem sp_line {u w : S} (hu : ∀ c ∈ u, c ≠ 32) : (sp 32 (u ++ 32 :: w)).head! = u ∧ (sp 32 (u ++ 32 :: w)).tail = sp 32 w := by
  rw [sp_cut 32 u w hu]; exact ⟨rfl, rfl⟩
theorem sp_single {w m : S} (h : sp 32 w = [m]) : m = w := by
  have := ic_sp 32 w
  rw [h, ic] at this; exact this

theorem rfold_one (st : RSt) (a : S) (r : List S) : rfold st (-1) (a :: r) = if a = wHaven then rfold st 0 r else none := by
  rw [rfold]
  rcases rkd_cases (sp 32 a).head! with ⟨hk, hx, _⟩ | ⟨hk, hx, _⟩ | ⟨hk, hx, _⟩ | ⟨hk, _⟩ | ⟨hk, hx⟩
  · by_cases h : (sp 32 a).tail = [[49]]
    · have ha : a = wHaven := sp_two (by decide) hx h
      have e : rline st (sp 32 a) = some st := by rw [rline, if_pos hk, if_pos h]
      rw [e, if_pos ha]
      have hb : ¬ rbad (rkd (sp 32 a).head!) (-1) := by rw [hk]; decide
      rw [hk] at hb
      simp only [hk, if_neg hb]
    · have ha : ¬ a = wHaven := by rintro rfl; exact h (by decide)
      have e : rline st (sp 32 a) = none := by rw [rline, if_pos hk, if_neg h]
      rw [e, if_neg ha]
  all_goals
    have ha : ¬ a = wHaven := by
      rintro rfl
      have : rkd (sp 32 wHaven).head! = 0 := by decide
      omega
    rw [if_neg ha]
    cases rline st (sp 32 a) with
    | none => rfl
    | some st' =>
      have hb : rbad (rkd (sp 32 a).head!) (-1) := by unfold rbad; omega
      simp only [if_pos hb]
def nmOk (b : S) : Bool := wName.isPrefixOf b && Wd.isName (behind wName b)
def veOk (c : S) : Bool := wVersion.isPrefixOf c && Ver.fine (behind wVersion c)
theorem behind_app (p x : S) : behind p (p ++ x) = x := by
  have : p.isPrefixOf (p ++ x) = true := List.isPrefixOf_iff_prefix.2 ⟨x, rfl⟩
  rw [behind, if_pos this, List.drop_left]
theorem rfold_two (st : RSt) (b : S) (r : List S) : rfold st 0 (b :: r) = if nmOk b = true then rfold { st with name := behind wName b } 1 r else none := by
  rw [rfold]
  by_cases hp : wName.isPrefixOf b = true
  · obtain ⟨w, rfl⟩ := List.isPrefixOf_iff_prefix.1 hp
    obtain ⟨h1, h2⟩ := sp_line (u := [110, 97, 109, 101]) (w := w) (by decide)
    have eb : (wName ++ w) = [110, 97, 109, 101] ++ 32 :: w := rfl
    rw [nmOk, hp, behind_app, eb, h1]
    have hk : rkd [110, 97, 109, 101] = 1 := by decide
    have hb : ¬ rbad (rkd [110, 97, 109, 101]) 0 := by decide
    simp only [if_neg hb]
    cases hn : Wd.isName w with
    | true =>
      have e : rline st (sp 32 ([110, 97, 109, 101] ++ 32 :: w)) = some { st with name := w } := by
        rw [rline, h1, h2, sp_none 32 w (name_no hn)]; simp [hk, hn]
      rw [e]; simp [hk]
    | false =>
      have e : rline st (sp 32 ([110, 97, 109, 101] ++ 32 :: w)) = none := by
        rw [rline, h1, h2, if_neg (by rw [hk]; decide), if_pos hk]
        cases hs : sp 32 w with
        | nil => rfl
        | cons m l =>
          cases l with
          | nil => have := sp_single hs; subst this; simp [hn]
          | cons _ _ => rfl
      rw [e]; simp
  · have hn : nmOk b = false := by rw [nmOk]; simp [hp]
    rw [hn]
    cases e : rline st (sp 32 b) with
    | none => rfl
    | some st' =>
      have hb : rbad (rkd (sp 32 b).head!) 0 := by
        rcases rkd_cases (sp 32 b).head! with ⟨hk, hx, _⟩ | ⟨hk, hx, _⟩ | ⟨hk, hx, _⟩ | ⟨hk, _⟩ | ⟨hk, hx⟩
        · unfold rbad; omega
        · exfalso
          rw [rline, if_neg (by omega), if_pos hk] at e
          cases ht : (sp 32 b).tail with
          | nil => rw [ht] at e; cases e
          | cons n l =>
            cases l with
            | cons _ _ => rw [ht] at e; cases e
            | nil =>
              have := sp_two (by decide) hx ht
              apply hp
              rw [this]
              exact List.isPrefixOf_iff_prefix.2 ⟨n, rfl⟩
        · unfold rbad; omega
        · unfold rbad; omega
        · unfold rbad; omega
      simp only [if_pos hb]; rfl
theorem rfold_three (st : RSt) (b : S) (r : List S) : rfold st 1 (b :: r) = if veOk b = true then rfold { st with version := behind wVersion b } 2 r else none := by
  rw [rfold]
  by_cases hp : wVersion.isPrefixOf b = true
  · obtain ⟨w, rfl⟩ := List.isPrefixOf_iff_prefix.1 hp
    obtain ⟨h1, h2⟩ := sp_line (u := [118, 101, 114, 115, 105, 111, 110]) (w := w) (by decide)
    have eb : (wVersion ++ w) = [118, 101, 114, 115, 105, 111, 110] ++ 32 :: w := rfl
    rw [veOk, hp, behind_app, eb, h1]
    have hk : rkd [118, 101, 114, 115, 105, 111, 110] = 2 := by decide
    have hb : ¬ rbad (rkd [118, 101, 114, 115, 105, 111, 110]) 1 := by decide
    simp only [if_neg hb]
    cases hn : Ver.fine w with
    | true =>
      have e : rline st (sp 32 ([118, 101, 114, 115, 105, 111, 110] ++ 32 :: w)) = some { st with version := w } := by
        rw [rline, h1, h2, sp_none 32 w (fine_no hn)]; simp [hk, hn]
      rw [e]; simp [hk]
    | false =>
      have e : rline st (sp 32 ([118, 101, 114, 115, 105, 111, 110] ++ 32 :: w)) = none := by
        rw [rline, h1, h2, if_neg (by rw [hk]; decide), if_neg (by rw [hk]; decide), if_pos hk]
        cases hs : sp 32 w with
        | nil => rfl
        | cons m l =>
          cases l with
          | nil => have := sp_single hs; subst this; simp [hn]
          | cons _ _ => rfl
      rw [e]; simp
  · have hn : veOk b = false := by rw [veOk]; simp [hp]
    rw [hn]
    cases e : rline st (sp 32 b) with
    | none => rfl
    | some st' =>
      have hb : rbad (rkd (sp 32 b).head!) 1 := by
        rcases rkd_cases (sp 32 b).head! with ⟨hk, hx, _⟩ | ⟨hk, hx, _⟩ | ⟨hk, hx, _⟩ | ⟨hk, _⟩ | ⟨hk, hx⟩
        · unfold rbad; omega
        · unfold rbad; omega
        · exfalso
          rw [rline, if_neg (by omega), if_neg (by omega), if_pos hk] at e
          cases ht : (sp 32 b).tail with
          | nil => rw [ht] at e; cases e
          | cons n l =>
            cases l with
            | cons _ _ => rw [ht] at e; cases e
            | nil =>
              have := sp_two (by decide) hx ht
              apply hp
              rw [this]
              exact List.isPrefixOf_iff_prefix.2 ⟨n, rfl⟩
        · unfold rbad; omega
        · unfold rbad; omega
      simp only [if_pos hb]; rfl
theorem rfold_head (a b c : S) (r : List S) : rfold .zero (-1) (a :: b :: c :: r) = if headOk a b c = true then rfold ⟨behind wName b, behind wVersion c, [], [], [], [], [], []⟩ 2 r else none := by
  rw [rfold_one]
  by_cases ha : a = wHaven
  · rw [if_pos ha, rfold_two]
    cases hb : nmOk b with
    | false =>
      have : headOk a b c = false := by
        rw [headOk]
        rw [nmOk] at hb
        cases h1 : wName.isPrefixOf b <;> cases h2 : Wd.isName (behind wName b) <;> simp_all
      rw [this]; rfl
    | true =>
      rw [if_pos rfl, rfold_three]
      cases hc : veOk c with
      | false =>
        have : headOk a b c = false := by
          rw [headOk]
          rw [veOk] at hc
          cases h1 : wVersion.isPrefixOf c <;> cases h2 : Ver.fine (behind wVersion c) <;> simp_all
        rw [this]; rfl
      | true =>
        have : headOk a b c = true := by
          rw [headOk]
          simp only [nmOk, veOk, Bool.and_eq_true] at hb hc
          simp [ha, hb.1, hb.2, hc.1, hc.2]
        rw [this]; rfl
  · have : headOk a b c = false := by rw [headOk]; simp [ha]
    rw [if_neg ha, this]; rfl
theorem rfold_few {ls : List S} {st : RSt} {k : Int} (h : rfold .zero (-1) ls = some (st, k)) (hl : ls.length < 3) : k < 2 := by
  match ls, hl with
  | [], _ => simp [rfold] at h; omega
  | [a], _ =>
    rw [rfold_one] at h
    split at h
    · simp [rfold] at h; omega
    · cases h
  | [a, b], _ =>
    rw [rfold_one] at h
    split at h
    · rw [rfold_two] at h
      split at h
      · simp [rfold] at h; omega
      · cases h
    · cases h
end Arc
end Go.Proofs.YtgdmgmklncmanaaGreatDoor
/- The walks over commands: those that are none. -/
namespace Go.Proofs.YtgdmgmklncmanaaGreatDoor
open Go.RowKit

/-- The place of the result, in a world that hangs on the beginning. -/
theorem CmdIn.ends {w w1 : World} {a b c d a' b' c' d' : Value} (h : CmdIn w a b c d a' b' c' d' w1) : w1.cell? ⟨w.heap.size, 0, none⟩ = some a ∧ w1.cell? ⟨w.heap.size, 1, none⟩ = some b ∧ w1.cell? ⟨w.heap.size, 2, none⟩ = some c ∧ w1.cell? ⟨w.heap.size, 3, none⟩ = some d := by
  obtain ⟨t0, t1, t2, t3, -⟩ := four_free h.out
  exact ⟨t0, t1, t2, t3⟩
theorem command_few (ao : Option Addr) (n c : Nat) (hn : n < 2) (w : World) :
    Calls Tryz.prog 95 #[.slice ao n c] w fun e w' => e = .returned (.tuple #[.agg #[.int .i64 0, .string ⟨#[]⟩, .string ⟨#[]⟩, .string ⟨#[]⟩], .bool false]) ∧ Below w.heap.size w w' := by
  have hb : (n : Int) < 2 := by omega
  go_enter Tryz.func95, Tryz.ntmps95
  go_wp2_with fail
  obtain ⟨t0, t1, t2, t3, -⟩ := four_free (heap_alloc_new w (.cells #[.int .i64 0, .string ⟨#[]⟩, .string ⟨#[]⟩, .string ⟨#[]⟩] 143))
  exact bodyPost_ret (v := .tuple #[.agg #[.int .i64 0, .string ⟨#[]⟩, .string ⟨#[]⟩, .string ⟨#[]⟩], .bool false]) (by simp [results, Tryz.results95, go_sem, t0, t1, t2, t3]) rfl ⟨rfl, (Below.refl _ w).alloc (Nat.le_refl _) _⟩
set_option maxHeartbeats 400000 in
theorem command_no (g o n c : Nat) (v p : List UInt8) (hn : 2 ≤ n) (hv : Arc.vb v = 0) (w : World)
    (hg : g < w.heap.size) (c0 : w.cell? ⟨g, o, none⟩ = some (.string ⟨v.toArray⟩)) (c1 : w.cell? ⟨g, o + 1, none⟩ = some (.string ⟨p.toArray⟩)) :
    Calls Tryz.prog 95 #[.slice (some ⟨g, o, none⟩) n c] w fun e w' => e = .returned (.tuple #[.agg #[.int .i64 0, .string ⟨#[]⟩, .string ⟨#[]⟩, .string ⟨#[]⟩], .bool false]) ∧ Below w.heap.size w w' := by
  have hb : ¬ (n : Int) < 2 := by omega
  have h1 : (1 : Int) < n := by omega
  have h0 : (0 : Int) < n := by omega
  obtain ⟨v1, v2, v3, v4, v5⟩ : (v == [112, 117, 116]) = false ∧ (v == [97, 100, 100]) = false ∧ (v == [99, 111, 112, 121]) = false ∧ (v == [100, 114, 111, 112]) = false ∧ (v == [108, 105, 115, 116]) = false := by
    unfold Arc.vb at hv
    refine ⟨?_, ?_, ?_, ?_, ?_⟩ <;> (apply Bool.eq_false_iff.2; intro e; rw [beq_iff_eq] at e; subst e; simp at hv)
  clear hv
  go_enter Tryz.func95, Tryz.ntmps95
  go_wp2_with fail
  have HI := CmdIn.begin w (.int .i64 0) (.string ⟨#[]⟩) (.string ⟨#[]⟩) (.string ⟨#[]⟩) (.int .i64 0) (.string ⟨p.toArray⟩) (.string ⟨#[]⟩) (.string ⟨#[]⟩)
  obtain ⟨t0, t1, t2, t3⟩ := HI.ends
  exact bodyPost_ret (v := .tuple #[.agg #[.int .i64 0, .string ⟨#[]⟩, .string ⟨#[]⟩, .string ⟨#[]⟩], .bool false]) (by simp [results, Tryz.results95, go_sem, t0, t1, t2, t3]) rfl ⟨rfl, HI.bel⟩
end Go.Proofs.YtgdmgmklncmanaaGreatDoor
/- The walks over commands: the wrong count of words; the third word. (Written by tools/gen_cmdw3.py.) -/
namespace Go.Proofs.YtgdmgmklncmanaaGreatDoor
open Go.RowKit

set_option maxHeartbeats 400000 in
theorem command_put_count (g o n c : Nat) (p : List UInt8) (hn : 2 ≤ n) (hc : n ≠ 3) (w : World)
    (hg : g < w.heap.size) (c0 : w.cell? ⟨g, o, none⟩ = some (.string ⟨#[112, 117, 116]⟩)) (c1 : w.cell? ⟨g, o + 1, none⟩ = some (.string ⟨p.toArray⟩)) :
    Calls Tryz.prog 95 #[.slice (some ⟨g, o, none⟩) n c] w fun e w' => e = .returned (.tuple #[.agg #[.int .i64 0, .string ⟨#[]⟩, .string ⟨#[]⟩, .string ⟨#[]⟩], .bool false]) ∧ Below w.heap.size w w' := by
  have hb : ¬ (n : Int) < 2 := by omega
  have h1 : (1 : Int) < n := by omega
  have h0 : (0 : Int) < n := by omega
  have hcb : ((n : Int) == 3) = false := by apply beq_eq_false_iff_ne.2; omega
  have hcn : ¬ (n : Int) = 3 := by omega
  go_enter Tryz.func95, Tryz.ntmps95
  go_wp2_with fail
  have HI := CmdIn.begin w (.int .i64 0) (.string ⟨#[]⟩) (.string ⟨#[]⟩) (.string ⟨#[]⟩) (.int .i64 1) (.string ⟨p.toArray⟩) (.string ⟨#[]⟩) (.string ⟨#[]⟩)
  obtain ⟨t0, t1, t2, t3⟩ := HI.ends
  exact bodyPost_ret (v := .tuple #[.agg #[.int .i64 0, .string ⟨#[]⟩, .string ⟨#[]⟩, .string ⟨#[]⟩], .bool false]) (by simp [results, Tryz.results95, go_sem, t0, t1, t2, t3]) rfl ⟨rfl, HI.bel⟩
set_option maxHeartbeats 400000 in
theorem command_add_count (g o n c : Nat) (p : List UInt8) (hn : 2 ≤ n) (hc : n ≠ 3) (w : World)
    (hg : g < w.heap.size) (c0 : w.cell? ⟨g, o, none⟩ = some (.string ⟨#[97, 100, 100]⟩)) (c1 : w.cell? ⟨g, o + 1, none⟩ = some (.string ⟨p.toArray⟩)) :
    Calls Tryz.prog 95 #[.slice (some ⟨g, o, none⟩) n c] w fun e w' => e = .returned (.tuple #[.agg #[.int .i64 0, .string ⟨#[]⟩, .string ⟨#[]⟩, .string ⟨#[]⟩], .bool false]) ∧ Below w.heap.size w w' := by
  have hb : ¬ (n : Int) < 2 := by omega
  have h1 : (1 : Int) < n := by omega
  have h0 : (0 : Int) < n := by omega
  have hcb : ((n : Int) == 3) = false := by apply beq_eq_false_iff_ne.2; omega
  have hcn : ¬ (n : Int) = 3 := by omega
  go_enter Tryz.func95, Tryz.ntmps95
  go_wp2_with fail
  have HI := CmdIn.begin w (.int .i64 0) (.string ⟨#[]⟩) (.string ⟨#[]⟩) (.string ⟨#[]⟩) (.int .i64 2) (.string ⟨p.toArray⟩) (.string ⟨#[]⟩) (.string ⟨#[]⟩)
  obtain ⟨t0, t1, t2, t3⟩ := HI.ends
  exact bodyPost_ret (v := .tuple #[.agg #[.int .i64 0, .string ⟨#[]⟩, .string ⟨#[]⟩, .string ⟨#[]⟩], .bool false]) (by simp [results, Tryz.results95, go_sem, t0, t1, t2, t3]) rfl ⟨rfl, HI.bel⟩
set_option maxHeartbeats 400000 in
theorem command_copy_count (g o n c : Nat) (p : List UInt8) (hn : 2 ≤ n) (hc : n ≠ 3) (w : World)
    (hg : g < w.heap.size) (c0 : w.cell? ⟨g, o, none⟩ = some (.string ⟨#[99, 111, 112, 121]⟩)) (c1 : w.cell? ⟨g, o + 1, none⟩ = some (.string ⟨p.toArray⟩)) :
    Calls Tryz.prog 95 #[.slice (some ⟨g, o, none⟩) n c] w fun e w' => e = .returned (.tuple #[.agg #[.int .i64 0, .string ⟨#[]⟩, .string ⟨#[]⟩, .string ⟨#[]⟩], .bool false]) ∧ Below w.heap.size w w' := by
  have hb : ¬ (n : Int) < 2 := by omega
  have h1 : (1 : Int) < n := by omega
  have h0 : (0 : Int) < n := by omega
  have hcb : ((n : Int) == 3) = false := by apply beq_eq_false_iff_ne.2; omega
  have hcn : ¬ (n : Int) = 3 := by omega
  go_enter Tryz.func95, Tryz.ntmps95
  go_wp2_with fail
  have HI := CmdIn.begin w (.int .i64 0) (.string ⟨#[]⟩) (.string ⟨#[]⟩) (.string ⟨#[]⟩) (.int .i64 3) (.string ⟨p.toArray⟩) (.string ⟨#[]⟩) (.string ⟨#[]⟩)
  obtain ⟨t0, t1, t2, t3⟩ := HI.ends
  exact bodyPost_ret (v := .tuple #[.agg #[.int .i64 0, .string ⟨#[]⟩, .string ⟨#[]⟩, .string ⟨#[]⟩], .bool false]) (by simp [results, Tryz.results95, go_sem, t0, t1, t2, t3]) rfl ⟨rfl, HI.bel⟩
set_option maxHeartbeats 400000 in
theorem command_drop_count (g o n c : Nat) (p : List UInt8) (hn : 2 ≤ n) (hc : n ≠ 2) (w : World)
    (hg : g < w.heap.size) (c0 : w.cell? ⟨g, o, none⟩ = some (.string ⟨#[100, 114, 111, 112]⟩)) (c1 : w.cell? ⟨g, o + 1, none⟩ = some (.string ⟨p.toArray⟩)) :
    Calls Tryz.prog 95 #[.slice (some ⟨g, o, none⟩) n c] w fun e w' => e = .returned (.tuple #[.agg #[.int .i64 0, .string ⟨#[]⟩, .string ⟨#[]⟩, .string ⟨#[]⟩], .bool false]) ∧ Below w.heap.size w w' := by
  have hb : ¬ (n : Int) < 2 := by omega
  have h1 : (1 : Int) < n := by omega
  have h0 : (0 : Int) < n := by omega
  have hcb : ((n : Int) == 2) = false := by apply beq_eq_false_iff_ne.2; omega
  have hcn : ¬ (n : Int) = 2 := by omega
  go_enter Tryz.func95, Tryz.ntmps95
  go_wp2_with fail
  have HI := CmdIn.begin w (.int .i64 0) (.string ⟨#[]⟩) (.string ⟨#[]⟩) (.string ⟨#[]⟩) (.int .i64 4) (.string ⟨p.toArray⟩) (.string ⟨#[]⟩) (.string ⟨#[]⟩)
  obtain ⟨t0, t1, t2, t3⟩ := HI.ends
  exact bodyPost_ret (v := .tuple #[.agg #[.int .i64 0, .string ⟨#[]⟩, .string ⟨#[]⟩, .string ⟨#[]⟩], .bool false]) (by simp [results, Tryz.results95, go_sem, t0, t1, t2, t3]) rfl ⟨rfl, HI.bel⟩
set_option maxHeartbeats 400000 in
theorem command_list_count (g o n c : Nat) (p : List UInt8) (hn : 2 ≤ n) (hc : n ≠ 2) (w : World)
    (hg : g < w.heap.size) (c0 : w.cell? ⟨g, o, none⟩ = some (.string ⟨#[108, 105, 115, 116]⟩)) (c1 : w.cell? ⟨g, o + 1, none⟩ = some (.string ⟨p.toArray⟩)) :
    Calls Tryz.prog 95 #[.slice (some ⟨g, o, none⟩) n c] w fun e w' => e = .returned (.tuple #[.agg #[.int .i64 0, .string ⟨#[]⟩, .string ⟨#[]⟩, .string ⟨#[]⟩], .bool false]) ∧ Below w.heap.size w w' := by
  have hb : ¬ (n : Int) < 2 := by omega
  have h1 : (1 : Int) < n := by omega
  have h0 : (0 : Int) < n := by omega
  have hcb : ((n : Int) == 2) = false := by apply beq_eq_false_iff_ne.2; omega
  have hcn : ¬ (n : Int) = 2 := by omega
  go_enter Tryz.func95, Tryz.ntmps95
  go_wp2_with fail
  have HI := CmdIn.begin w (.int .i64 0) (.string ⟨#[]⟩) (.string ⟨#[]⟩) (.string ⟨#[]⟩) (.int .i64 5) (.string ⟨p.toArray⟩) (.string ⟨#[]⟩) (.string ⟨#[]⟩)
  obtain ⟨t0, t1, t2, t3⟩ := HI.ends
  exact bodyPost_ret (v := .tuple #[.agg #[.int .i64 0, .string ⟨#[]⟩, .string ⟨#[]⟩, .string ⟨#[]⟩], .bool false]) (by simp [results, Tryz.results95, go_sem, t0, t1, t2, t3]) rfl ⟨rfl, HI.bel⟩
set_option maxHeartbeats 400000 in
theorem third_put (b g o c : Nat) (p q : List UInt8) (hq : q.length ≤ 2000) (w : World)
    (hb : w.heap[b]? = some (.cells #[.int .i64 1, .string ⟨p.toArray⟩, .string ⟨#[]⟩, .string ⟨#[]⟩] 143 (0, 0)))
    (h2 : w.cell? ⟨g, o + 2, none⟩ = some (.string ⟨q.toArray⟩)) :
    Calls Tryz.prog 114 #[.pointer (some ⟨b, 0, none⟩), .slice (some ⟨g, o, none⟩) 3 c] w fun e w' => e = .returned (.bool (Wd.isWord q)) ∧ Below (w.setCell ⟨b, 2, none⟩ (.string ⟨q.toArray⟩)).heap.size (w.setCell ⟨b, 2, none⟩ (.string ⟨q.toArray⟩)) w' := by
  have k0 := (row_cell hb 0).trans (show _ = some (.int .i64 1) from rfl)
  have k2 := (row_cell hb 2).trans (show _ = some (.string ⟨#[]⟩) from rfl)
  have f2 := row_free hb 2
  have HB := hide hb; clear hb
  go_enter Tryz.func114, Tryz.ntmps114
  go_wp2_with (go_at_call 126; refine (isWord_any q hq _).mono ?_; rintro e w' ⟨rfl, hbw⟩)
  go_ret
  exact ⟨rfl, hbw⟩
theorem third_drop (b : Nat) (s : Value) (p : List UInt8) (w : World)
    (hb : w.heap[b]? = some (.cells #[.int .i64 4, .string ⟨p.toArray⟩, .string ⟨#[]⟩, .string ⟨#[]⟩] 143 (0, 0))) :
    Calls Tryz.prog 114 #[.pointer (some ⟨b, 0, none⟩), s] w fun e w' => e = .returned (.bool true) ∧ Below w.heap.size w w' := by
  have k0 := (row_cell hb 0).trans (show _ = some (.int .i64 4) from rfl)
  have HB := hide hb; clear hb
  go_enter Tryz.func114, Tryz.ntmps114
  go_wp2_with fail
  go_ret
  exact ⟨rfl, Below.refl _ _⟩
theorem third_list (b : Nat) (s : Value) (p : List UInt8) (w : World)
    (hb : w.heap[b]? = some (.cells #[.int .i64 5, .string ⟨p.toArray⟩, .string ⟨#[]⟩, .string ⟨#[]⟩] 143 (0, 0))) :
    Calls Tryz.prog 114 #[.pointer (some ⟨b, 0, none⟩), s] w fun e w' => e = .returned (.bool true) ∧ Below w.heap.size w w' := by
  have k0 := (row_cell hb 0).trans (show _ = some (.int .i64 5) from rfl)
  have HB := hide hb; clear hb
  go_enter Tryz.func114, Tryz.ntmps114
  go_wp2_with fail
  go_ret
  exact ⟨rfl, Below.refl _ _⟩
end Go.Proofs.YtgdmgmklncmanaaGreatDoor
