/- Where a version is cut: at the first colon, at the last minus. Plain mathematics. -/
import Derived.Test.YtgdmgmklncmanaaGreatDoorVerMath
import Derived.Lib.Bytealg
import Derived.Lib.LastIndexByte
namespace Go.Proofs.YtgdmgmklncmanaaGreatDoor
namespace Ver

theorem idx_cases (l : List UInt8) (c : UInt8) : (Lib.indexByte l c = -1 ∧ l.contains c = false) ∨
    (∃ k : Nat, k < l.length ∧ Lib.indexByte l c = k ∧ l.contains c = true ∧ (l.takeWhile fun x => x != c) = l.take k ∧ ((l.dropWhile fun x => x != c).drop 1) = l.drop (k + 1)) := by
  induction l with
  | nil => exact .inl ⟨rfl, rfl⟩
  | cons b l ih =>
    by_cases hb : b = c
    · subst hb
      exact .inr ⟨0, by simp, by simp [Lib.indexByte], by simp, by simp, by simp⟩
    · have hb' : ¬ c = b := fun h => hb h.symm
      rcases ih with ⟨h1, h2⟩ | ⟨k, h1, h2, h3, h4, h5⟩
      · exact .inl ⟨by simp [Lib.indexByte, hb, h1], by simp at h2; simp [h2, hb']⟩
      · refine .inr ⟨k + 1, by simpa using h1, ?_, ?_, ?_, ?_⟩
        · have hk : ¬ ((k : Int) = -1) := by omega
          simp [Lib.indexByte, hb, h2, hk]
        · simp at h3; simp [h3]
        · simp [hb, h4]
        · simp [hb, h5]

theorem cutC_cases (l : List UInt8) : (Lib.indexByte l 58 = -1 ∧ cutC l = ([48], l)) ∨ (∃ k : Nat, k < l.length ∧ Lib.indexByte l 58 = k ∧ cutC l = (l.take k, l.drop (k + 1))) := by
  rcases idx_cases l 58 with ⟨h1, h2⟩ | ⟨k, h1, h2, h3, h4, h5⟩
  · exact .inl ⟨h1, by simp only [cutC, h2]; rfl⟩
  · exact .inr ⟨k, h1, h2, by simp only [cutC, h3, h4, h5]; rfl⟩

theorem cutM_split (u v : List UInt8) (hv : ∀ x ∈ v, x ≠ 45) : cutM (u ++ 45 :: v) = (u, v) := by
  have e : (u ++ 45 :: v).reverse = v.reverse ++ 45 :: u.reverse := by simp
  have hc : (u ++ 45 :: v).contains 45 = true := by simp
  have h1 : (v.reverse ++ 45 :: u.reverse).takeWhile (fun c => c != 45) = v.reverse := by
    rw [List.takeWhile_append_of_pos (by intro x hx; simpa using hv x (by simpa using hx))]; simp
  have h2 : (v.reverse ++ 45 :: u.reverse).dropWhile (fun c => c != 45) = 45 :: u.reverse := by
    rw [List.dropWhile_append_of_pos (by intro x hx; simpa using hv x (by simpa using hx))]; simp
  simp only [cutM, hc, e, h1, h2]
  simp
theorem cutM_none (l : List UInt8) (h : ∀ x ∈ l, x ≠ 45) : cutM l = (l, [48]) := by
  have hc : l.contains 45 = false := by simp; intro hm; exact h 45 hm rfl
  simp only [cutM, hc]; rfl

theorem cutM_cases (l : List UInt8) : (Lib.lastIndexByte ⟨l.toArray⟩ 45 = -1 ∧ cutM l = (l, [48])) ∨ (∃ k : Nat, k < l.length ∧ Lib.lastIndexByte ⟨l.toArray⟩ 45 = k ∧ cutM l = (l.take k, l.drop (k + 1))) := by
  have toI : ∀ x : UInt8, (x.toNat : Int) = 45 → x = 45 := fun x h => by
    apply UInt8.toNat_inj.1; show x.toNat = 45; omega
  have at_ : ∀ j, ∀ h : j < l.length, (⟨l.toArray⟩ : ByteArray).data[j]! = l[j] := fun j h => by simp [h]
  rcases Lib.lastIndexByte_spec ⟨l.toArray⟩ 45 with ⟨h1, h2⟩ | ⟨i, h1, h2, h3, h4⟩
  · refine .inl ⟨h1, cutM_none l fun x hx e => ?_⟩
    obtain ⟨j, hj, rfl⟩ := List.mem_iff_getElem.1 hx
    exact h2 j (by simpa [ByteArray.size] using hj) (by rw [at_ j hj, e]; rfl)
  · have hi : i < l.length := by simpa [ByteArray.size] using h1
    refine .inr ⟨i, hi, h2, ?_⟩
    have e45 : l[i] = 45 := toI _ (by rw [← at_ i hi]; exact h3)
    have e : l = l.take i ++ 45 :: l.drop (i + 1) := by
      conv => lhs; rw [← List.take_append_drop i l, List.drop_eq_getElem_cons hi, e45]
    conv => lhs; rw [e]
    refine cutM_split _ _ fun x hx ex => ?_
    obtain ⟨j, hj, rfl⟩ := List.mem_iff_getElem.1 hx
    simp only [List.length_drop] at hj
    have hj' : i + 1 + j < l.length := by omega
    refine h4 (i + 1 + j) (by omega) (by simpa [ByteArray.size] using hj') ?_
    rw [at_ _ hj']
    rw [List.getElem_drop] at ex
    rw [ex]; rfl

theorem cutC_len (l : List UInt8) : (cutC l).2.length ≤ l.length := by
  rcases cutC_cases l with ⟨_, h⟩ | ⟨k, _, _, h⟩ <;> rw [h] <;> simp
theorem cutC_len1 (l : List UInt8) (hl : 1 ≤ l.length) : (cutC l).1.length ≤ l.length := by
  rcases cutC_cases l with ⟨_, h⟩ | ⟨k, _, _, h⟩ <;> rw [h] <;> simp
  · omega
  · omega
theorem cutM_len1 (l : List UInt8) : (cutM l).1.length ≤ l.length := by
  rcases cutM_cases l with ⟨_, h⟩ | ⟨k, _, _, h⟩ <;> rw [h] <;> simp
  omega
theorem cutM_len2 (l : List UInt8) (hl : l.length ≤ 24) : (cutM l).2.length ≤ 24 := by
  rcases cutM_cases l with ⟨_, h⟩ | ⟨k, _, _, h⟩ <;> rw [h] <;> simp
  omega
end Ver
end Go.Proofs.YtgdmgmklncmanaaGreatDoor
