/- A text between single bytes: one word for the library's own cutting and for the document's. Plain mathematics. -/
import Derived.Lib.SplitLaws
import Derived.Lib.CountLaws
import Derived.Lib.CutLaws
namespace Go.Proofs.YtgdmgmklncmanaaGreatDoor

/-- What stands between the bytes d. -/
def sp (d : UInt8) : List UInt8 → List (List UInt8)
  | [] => [[]]
  | c :: l => if c = d then [] :: sp d l else match sp d l with
    | [] => [[c]]
    | h :: t => (c :: h) :: t
theorem sp_ne (d : UInt8) (x : List UInt8) : sp d x ≠ [] := by
  cases x with
  | nil => simp [sp]
  | cons c l => rw [sp]; split; · simp
                split <;> simp
theorem sp_none (d : UInt8) : ∀ u : List UInt8, (∀ c ∈ u, c ≠ d) → sp d u = [u]
  | [], _ => rfl
  | c :: l, h => by
    have ih := sp_none d l fun e he => h e (by simp [he])
    have hc : c ≠ d := h c (by simp)
    simp [sp, hc, ih]
theorem sp_cut (d : UInt8) : ∀ (u v : List UInt8), (∀ c ∈ u, c ≠ d) → sp d (u ++ d :: v) = u :: sp d v
  | [], v, _ => by simp [sp]
  | c :: l, v, h => by
    have ih := sp_cut d l v fun e he => h e (by simp [he])
    have hc : c ≠ d := h c (by simp)
    simp [sp, hc, ih]
theorem sp_len (d : UInt8) (x : List UInt8) : (sp d x).length ≤ x.length + 1 := by
  induction x with
  | nil => simp [sp]
  | cons c l ih =>
    rw [sp]
    split
    · simp; omega
    · split
      · simp
      · rename_i h t e
        rw [e] at ih; simp at ih ⊢; omega
theorem sp_pos (d : UInt8) (x : List UInt8) : 1 ≤ (sp d x).length := by
  have := sp_ne d x
  cases h : sp d x with
  | nil => exact absurd h this
  | cons a l => simp
/-- Every piece is no longer than the text. -/
theorem sp_le (d : UInt8) : ∀ (x : List UInt8), ∀ y ∈ sp d x, y.length ≤ x.length
  | [], y, h => by simp [sp] at h; simp [h]
  | c :: l, y, h => by
    have ih := sp_le d l
    rw [sp] at h
    split at h
    · rcases List.mem_cons.1 h with rfl | h
      · simp
      · have := ih y h; simp; omega
    · split at h
      · simp at h; subst h; simp
      · rename_i u t e
        rcases List.mem_cons.1 h with rfl | h
        · have := ih u (by rw [e]; simp); simp; omega
        · have := ih y (by rw [e]; simp [h]); simp; omega

theorem index_one (d : UInt8) (s : List UInt8) : (Lib.index s [d] = -1 ∧ ∀ c ∈ s, c ≠ d) ∨ ∃ (u v : List UInt8), Lib.index s [d] = u.length ∧ s = u ++ d :: v ∧ ∀ c ∈ u, c ≠ d := by
  rcases Lib.index_spec s [d] with ⟨h1, h2⟩ | ⟨i, h1, h2, h3, h4⟩
  · refine .inl ⟨h1, fun c hc e => ?_⟩
    obtain ⟨k, hk, rfl⟩ := List.getElem_of_mem hc
    have := h2 k (by omega)
    rw [Lib.occAt, List.drop_eq_getElem_cons hk] at this
    simp [List.isPrefixOf, e] at this
  · have hk : i < s.length := by
      rcases Lib.occAt_room h3 with h | h
      · simp at h; omega
      · simp at h
    have hd : s[i] = d := by
      have h3' := h3
      rw [Lib.occAt, List.drop_eq_getElem_cons hk] at h3'
      simp [List.isPrefixOf] at h3'
      exact h3'.symm
    refine .inr ⟨s.take i, s.drop (i + 1), by rw [h1, List.length_take, Nat.min_eq_left (by omega)], ?_, fun c hc e => ?_⟩
    · conv => lhs; rw [← List.take_append_drop i s, List.drop_eq_getElem_cons hk, hd]
    · obtain ⟨k, hk2, rfl⟩ := List.getElem_of_mem hc
      rw [List.length_take] at hk2
      have := h4 k (by omega)
      rw [Lib.occAt, List.drop_eq_getElem_cons (by omega)] at this
      rw [List.getElem_take] at e
      simp [List.isPrefixOf, e] at this

theorem splitK_sp (d : UInt8) : ∀ (n : Nat) (s : List UInt8), s.length ≤ n → Lib.splitK [d] 0 (Lib.count s [d]) s = sp d s := by
  intro n
  induction n with
  | zero =>
    intro s h
    have : s = [] := List.eq_nil_of_length_eq_zero (by omega)
    subst this
    rw [Lib.count_miss (by rfl)]; rfl
  | succ n ih =>
    intro s h
    rcases index_one d s with ⟨h1, h2⟩ | ⟨u, v, h1, h2, h3⟩
    · rw [Lib.count_miss h1, sp_none d s h2]; rfl
    · rw [Lib.count_hit (by simp) h1, Nat.add_comm, Lib.splitK, if_neg (by rw [h1]; simp), h1]
      subst h2
      have hl : v.length ≤ n := by simp at h; omega
      have e1 : (u ++ d :: v).drop (u.length + [d].length) = v := by
        rw [show u.length + [d].length = (u ++ [d]).length from by simp, show u ++ d :: v = (u ++ [d]) ++ v from by simp, List.drop_left]
      have e2 : ((u.length : Int)).toNat = u.length := by omega
      rw [e2, e1, ih v hl, sp_cut d u v h3]
      congr 1
      simp
/-- The library's cutting at a single byte. -/
theorem splitB_sp (d : UInt8) (x : List UInt8) : (Lib.splitB ⟨#[d]⟩ 0 (Lib.countB ⟨x.toArray⟩ ⟨#[d]⟩) ⟨x.toArray⟩) = (sp d x).map fun y => ⟨y.toArray⟩ := by
  have h := Lib.splitB_data ⟨#[d]⟩ 0 (Lib.countB ⟨x.toArray⟩ ⟨#[d]⟩) ⟨x.toArray⟩
  have e : Lib.splitK [d] 0 (Lib.countB ⟨x.toArray⟩ ⟨#[d]⟩) x = sp d x := splitK_sp d x.length x (Nat.le_refl _)
  have h' : (Lib.splitB ⟨#[d]⟩ 0 (Lib.countB ⟨x.toArray⟩ ⟨#[d]⟩) ⟨x.toArray⟩).map (·.data.toList) = sp d x := h.trans e
  rw [← h', List.map_map]
  conv => lhs; rw [← List.map_id (Lib.splitB _ _ _ _)]
  apply List.map_congr_left
  intro b _
  cases b; simp
theorem countB_sp (d : UInt8) (x : List UInt8) : Lib.countB ⟨x.toArray⟩ ⟨#[d]⟩ + 1 = (sp d x).length := by
  have h1 := Lib.splitB_all ⟨#[d]⟩ (Nat.le_refl 1) 0 _ ⟨x.toArray⟩ rfl
  rw [splitB_sp, List.length_map] at h1
  omega

/-- A text cut at its first empty line: what stands ahead, what behind. -/
def cutTwo : List UInt8 → Option (List UInt8 × List UInt8)
  | [] => none
  | c :: l => match c, l with
    | 10, 10 :: v => some ([], v)
    | c, l => match cutTwo l with
      | none => none
      | some (u, v) => some (c :: u, v)
theorem cutTwo_cut : ∀ (s : List UInt8), Lib.cut s [10, 10] = match cutTwo s with
    | none => (s, [], false)
    | some (u, v) => (u, v, true) := by
  intro s
  induction s with
  | nil => rfl
  | cons c l ih =>
    by_cases h : [10, 10].isPrefixOf (c :: l) = true
    · obtain ⟨v, hv⟩ := List.isPrefixOf_iff_prefix.1 h
      have e1 : c = 10 := by simp at hv; exact hv.1.symm
      have e2 : l = 10 :: v := by simp at hv; exact hv.2.symm
      subst e1 e2
      have hi : Lib.index (10 :: 10 :: v) [10, 10] = 0 := by unfold Lib.index; rw [if_pos h]
      simp [Lib.cut, hi, cutTwo]
    · have hc : cutTwo (c :: l) = match cutTwo l with | none => none | some (u, v) => some (c :: u, v) := by
        conv => lhs; unfold cutTwo
        split
        · exact absurd rfl h
        · rfl
      have hi : Lib.index (c :: l) [10, 10] = if Lib.index l [10, 10] == -1 then -1 else Lib.index l [10, 10] + 1 := by
        conv => lhs; unfold Lib.index
        rw [if_neg h]
      rw [hc]
      have hg := Lib.index_ge l [10, 10]
      rw [Lib.cut] at ih
      by_cases hn : Lib.index l [10, 10] = -1
      · rw [if_neg (by omega)] at ih
        have hi' : Lib.index (c :: l) [10, 10] = -1 := by rw [hi, if_pos (by simp [hn])]
        rw [Lib.cut, hi', if_neg (by omega)]
        cases hct : cutTwo l with
        | none => simp
        | some p => obtain ⟨u, v⟩ := p; rw [hct] at ih; simp at ih
      · rw [if_pos (by omega)] at ih
        have hi' : Lib.index (c :: l) [10, 10] = Lib.index l [10, 10] + 1 := by rw [hi, if_neg (by simp [hn])]
        rw [Lib.cut, hi', if_pos (by omega)]
        cases hct : cutTwo l with
        | none => rw [hct] at ih; simp at ih
        | some p =>
          obtain ⟨u, v⟩ := p
          rw [hct] at ih
          simp only [Prod.mk.injEq, and_true] at ih
          obtain ⟨i1, i2⟩ := ih
          have e : (Lib.index l [10, 10] + 1).toNat = (Lib.index l [10, 10]).toNat + 1 := by omega
          simp only [e, List.take_succ_cons, i1]
          rw [show (Lib.index l [10, 10]).toNat + 1 + [(10 : UInt8), 10].length = ((Lib.index l [10, 10]).toNat + [(10 : UInt8), 10].length) + 1 from by omega, List.drop_succ_cons, i2]
end Go.Proofs.YtgdmgmklncmanaaGreatDoor
