/- The walk over the document's own answer on a line's words: a slice that the call gathers. -/
import Derived.Test.YtgdmgmklncmanaaGreatDoorRefX3
import Derived.Test.YtgdmgmklncmanaaGreatDoorRefW4
import Derived.BigCall
namespace Go.Proofs.YtgdmgmklncmanaaGreatDoor
open Go.RowKit

/-- What stands between single blanks. -/
def spl : List UInt8 → List (List UInt8)
  | [] => [[]]
  | c :: l => if c = 32 then [] :: spl l else match spl l with
    | [] => [[c]]
    | h :: t => (c :: h) :: t
theorem spl_none : ∀ u : List UInt8, (∀ c ∈ u, c ≠ 32) → spl u = [u]
  | [], _ => rfl
  | c :: l, h => by
    have ih := spl_none l fun d hd => h d (by simp [hd])
    have hc : c ≠ 32 := h c (by simp)
    simp [spl, hc, ih]
theorem spl_cut : ∀ (u v : List UInt8), (∀ c ∈ u, c ≠ 32) → spl (u ++ 32 :: v) = u :: spl v
  | [], v, _ => by simp [spl]
  | c :: l, v, h => by
    have ih := spl_cut l v fun d hd => h d (by simp [hd])
    have hc : c ≠ 32 := h c (by simp)
    simp [spl, hc, ih]
theorem spl_at {x : List UInt8} {f k : Nat} (hf : f ≤ k) (hk : k < x.length) (hx : x[k] = 32) (hn : ((x.drop f).take (k - f)).all (fun c => c != 32) = true) : spl (x.drop f) = (x.drop f).take (k - f) :: spl (x.drop (k + 1)) := by
  have hk' : k - f < (x.drop f).length := by rw [List.length_drop]; omega
  have e : x.drop f = (x.drop f).take (k - f) ++ 32 :: x.drop (k + 1) := by
    conv => lhs; rw [← List.take_append_drop (k - f) (x.drop f), List.drop_eq_getElem_cons hk']
    rw [List.getElem_drop, List.drop_drop]
    congr 2
    · rw [← hx]; congr 1; omega
    · congr 1; omega
  conv => lhs; rw [e]
  exact spl_cut _ _ (all_ne hn)
theorem spl_len (x : List UInt8) : (spl x).length ≤ x.length + 1 := by
  induction x with
  | nil => simp [spl]
  | cons c l ih =>
    rw [spl]
    split
    · simp; omega
    · split
      · simp
      · rename_i h t e
        rw [e] at ih; simp at ih ⊢; omega
def strs (l : List (List UInt8)) : List Value := l.map fun x => .string ⟨x.toArray⟩
theorem strs_snoc (l : List (List UInt8)) (x : List UInt8) : strs (l ++ [x]) = strs l ++ [.string ⟨x.toArray⟩] := by simp [strs]
theorem cut_mid (x : List UInt8) (f k : Nat) : (⟨x.toArray⟩ : ByteArray).extract f k = ⟨((x.drop f).take (k - f)).toArray⟩ := by
  apply bytes_ext; simp [ByteArray.data_extract, List.extract]
theorem mid_on {x : List UInt8} {f k : Nat} (hf : f ≤ k) (hk : k < x.length) (hn : ((x.drop f).take (k - f)).all (fun c => c != 32) = true) (hx : x[k] ≠ 32) : ((x.drop f).take (k + 1 - f)).all (fun c => c != 32) = true := by
  have hk' : k - f < (x.drop f).length := by rw [List.length_drop]; omega
  rw [show k + 1 - f = (k - f) + 1 from by omega, List.take_succ_eq_append_getElem hk', List.all_append, hn]
  have : (x.drop f)[k - f] = x[k] := by rw [List.getElem_drop]; congr 1; omega
  simp [this, hx]
theorem info_str : (Tryz.prog.info? 9).map (fun i => (i.zero, i.size, i.bytes)) = some (some (.string ByteArray.empty), 1, 16) := by kernel_rfl
theorem info_parts' {P : Program} {t : TypeId} {z : Value} {n b : Nat} (h : (P.info? t).map (fun i => (i.zero, i.size, i.bytes)) = some (some z, n, b)) : ∃ i0, P.info? t = some i0 ∧ i0.zero = some z ∧ i0.size = n ∧ i0.bytes = b := by
  cases hi : P.info? t with
  | none => simp [hi] at h
  | some i => simp [hi] at h; exact ⟨i, rfl, h.1, h.2.1, h.2.2⟩

/-- Where the walk stands: the words so far; how far the text has been read; where the present word began. -/
def WS (x : List UInt8) (k f : Nat) (p : List (List UInt8)) : Prop :=
  p.length ≤ k ∧ ((k ≤ x.length ∧ f ≤ k ∧ spl x = p ++ spl (x.drop f) ∧ ((x.drop f).take (k - f)).all (fun c => c != 32) = true) ∨ (k = x.length + 1 ∧ spl x = p))

theorem WS_at {x : List UInt8} {k f : Nat} {p : List (List UInt8)} (h : WS x k f p) (hk : k ≤ x.length) : p.length ≤ k ∧ f ≤ k ∧ spl x = p ++ spl (x.drop f) ∧ ((x.drop f).take (k - f)).all (fun c => c != 32) = true := by
  obtain ⟨h1, ⟨_, h2, h3, h4⟩ | ⟨h2, _⟩⟩ := h
  · exact ⟨h1, h2, h3, h4⟩
  · omega
theorem WS_keep {x : List UInt8} {k f : Nat} {p : List (List UInt8)} (h : WS x k f p) (hk : k < x.length) (hx : x[k] ≠ 32) : WS x (k + 1) f p := by
  obtain ⟨h1, h2, h3, h4⟩ := WS_at h (by omega)
  exact ⟨by omega, .inl ⟨by omega, by omega, h3, mid_on h2 hk h4 hx⟩⟩
theorem WS_cut {x : List UInt8} {k f : Nat} {p : List (List UInt8)} (h : WS x k f p) (hk : k < x.length) (hx : x[k] = 32) : WS x (k + 1) (k + 1) (p ++ [(x.drop f).take (k - f)]) := by
  obtain ⟨h1, h2, h3, h4⟩ := WS_at h (by omega)
  refine ⟨by simp; omega, .inl ⟨by omega, by omega, ?_, by simp⟩⟩
  rw [h3, spl_at h2 hk hx h4]; simp
theorem WS_end {x : List UInt8} {f : Nat} {p : List (List UInt8)} (h : WS x x.length f p) : WS x (x.length + 1) (x.length + 1) (p ++ [(x.drop f).take (x.length - f)]) := by
  obtain ⟨h1, h2, h3, h4⟩ := WS_at h (by omega)
  refine ⟨by simp; omega, .inr ⟨rfl, ?_⟩⟩
  have e : (x.drop f).take (x.length - f) = x.drop f := List.take_of_length_le (by rw [List.length_drop]; omega)
  rw [e] at h4
  rw [h3, spl_none _ (all_ne h4), e]
theorem WS_done {x : List UInt8} {f : Nat} {p : List (List UInt8)} (h : WS x (x.length + 1) f p) : spl x = p := by
  obtain ⟨_, ⟨h2, _⟩ | ⟨_, h2⟩⟩ := h
  · omega
  · exact h2
theorem WS_le {x : List UInt8} {k f : Nat} {p : List (List UInt8)} (h : WS x k f p) : p.length ≤ k := h.1
theorem own_shape {w : World} {base : Nat} {t : TypeId} {v : Value} {n : Nat} {xs : List Value} (h : w.ownsRow base t 1 v n xs) (hn : 0 < n) : ∃ g cap, v = .slice (some ⟨g, 0, none⟩) n cap := by
  rcases h.2 with ⟨_, h⟩ | ⟨g, cap, _, h, _⟩
  · omega
  · exact ⟨g, cap, h⟩

set_option maxRecDepth 8000 in
set_option maxHeartbeats 2000000 in
theorem rwords_any (x : List UInt8) (hx : x.length ≤ 2000) (w : World) :
    Calls Tryz.prog 21 #[.string ⟨x.toArray⟩] w fun e w' => ∃ v, e = .returned v ∧ w'.ownsRow w.heap.size 9 1 v (spl x).length (strs (spl x)) ∧ Below w.heap.size w w' := by
  obtain ⟨i0, hi, hz0, hz1, hz2⟩ := info_parts' info_str
  go_enter Tryz.func21, Tryz.ntmps21
  go_wp2_with fail
  go_loopw [3, 4, 5] (fun o fr i wr => ∃ (k f : Nat) (p : List (List UInt8)) (ao : Option Addr) (cv : Nat), o = .slice ao p.length cv ∧ i = .int .i64 k ∧ fr = .int .i64 f ∧ Hid (WS x k f p) ∧ k ≤ x.length + 1 ∧ f ≤ x.length + 1 ∧ p.length ≤ 2001 ∧ wr.ownsRow w.heap.size 9 1 o p.length (strs p) ∧ Below w.heap.size w wr)
    (fun _ _ i _ => x.length + 1 - (intOf i).toNat)
  case atStart => exact ⟨0, 0, [], none, 0, rfl, rfl, rfl, hide ⟨by simp, .inl ⟨by omega, by omega, by simp, rfl⟩⟩, by omega, by omega, by simp, World.ownsRow_nil _ _ _ _, Below.refl _ _⟩
  case round =>
    obtain ⟨k, f, p, ao, cv, rfl, rfl, rfl, hws, hk, hf, hp, hown, hbel⟩ := hrel
    have hsize := hbel.size
    by_cases hlt : k < x.length
    · have hfk := (WS_at hws.out (by omega)).2.1
      obtain ⟨c, hc, hcx⟩ : ∃ c, (⟨x.toArray⟩ : ByteArray)[k]'hlt = c ∧ x[k] = c := ⟨_, rfl, rfl⟩
      have hne : ((k : Int) == (x.length : Int)) = false := beq_eq_false_iff_ne.2 (by omega)
      cases hd : ((c.toNat : Int) == 32)
      · have HWN := hide (WS_keep hws.out hlt (by rw [hcx]; intro e; subst e; simp at hd))
        clear hcx
        go_wp2_with fail
        go_roundw
        case rel => exact ⟨k + 1, f, p, ao, cv, rfl, by go_num, rfl, HWN, by omega, by omega, hp, hown, hbel⟩
        case measure => simp [intOf]; omega
      · have HWN := hide (WS_cut hws.out hlt (by rw [hcx]; exact UInt8.toNat_inj.1 (by have := eq_of_beq hd; simp; omega)))
        clear hcx
        go_wp2_with (first
          | (at_builtin; refine wpList_append_own _ rfl _ _ 30 rfl w.heap.size 9 i0 (.string ByteArray.empty) 1 16 Tryz.underlying30 hi hz0 hz1 hz2 rfl (by decide) _ _ _ rfl (hown.alloc _) ⟨wr.heap.size, 0, none⟩ 1 1 [.string ((⟨x.toArray⟩ : ByteArray).extract f k)] rfl rfl (cell_one_new _ _ _) (fun x hx => by simp at hx; subst hx; rfl) (by unfold maxLen; omega) (by omega) (by simp; omega) ?_; intro v' w3 hown' hgrow3 hnil3))
        go_roundw
        case rel =>
          obtain ⟨g3, cap3, hv3⟩ := own_shape hown' (by omega)
          have HV := HWN.out
          have hle := WS_le HV
          have e3 : strs p ++ [.string ((⟨x.toArray⟩ : ByteArray).extract f k)] = strs (p ++ [(x.drop f).take (k - f)]) := by rw [cut_mid]; exact (strs_snoc _ _).symm
          rw [e3] at hown'
          refine ⟨k + 1, k + 1, p ++ [(x.drop f).take (k - f)], some ⟨g3, 0, none⟩, cap3, by rw [hv3]; simp, by go_num, by go_num, HWN, by omega, by omega, by simp at hle ⊢; omega, by rw [List.length_append]; exact hown', (hbel.alloc hsize _).grown hgrow3 (by simp; omega) (fun q hq => (hown.lt q hq).1)⟩
        case measure => simp [intOf]; omega
    · by_cases hend : k = x.length
      · subst hend
        have hfk := (WS_at hws.out (by omega)).2.1
        have HWN := hide (WS_end hws.out)
        go_wp2_with (first
          | (at_builtin; refine wpList_append_own _ rfl _ _ 30 rfl w.heap.size 9 i0 (.string ByteArray.empty) 1 16 Tryz.underlying30 hi hz0 hz1 hz2 rfl (by decide) _ _ _ rfl (hown.alloc _) ⟨wr.heap.size, 0, none⟩ 1 1 [.string ((⟨x.toArray⟩ : ByteArray).extract f x.length)] rfl rfl (cell_one_new _ _ _) (fun x hx => by simp at hx; subst hx; rfl) (by unfold maxLen; omega) (by omega) (by simp; omega) ?_; intro v' w3 hown' hgrow3 hnil3))
        go_roundw
        case rel =>
          obtain ⟨g3, cap3, hv3⟩ := own_shape hown' (by omega)
          have HV := HWN.out
          have hle := WS_le HV
          have e3 : strs p ++ [.string ((⟨x.toArray⟩ : ByteArray).extract f x.length)] = strs (p ++ [(x.drop f).take (x.length - f)]) := by rw [cut_mid]; exact (strs_snoc _ _).symm
          rw [e3] at hown'
          refine ⟨x.length + 1, x.length + 1, p ++ [(x.drop f).take (x.length - f)], some ⟨g3, 0, none⟩, cap3, by rw [hv3]; simp, by go_num, by go_num, HWN, by omega, by omega, by simp at hle ⊢; omega, by rw [List.length_append]; exact hown', (hbel.alloc hsize _).grown hgrow3 (by simp; omega) (fun q hq => (hown.lt q hq).1)⟩
        case measure => simp [intOf]
      · obtain rfl : k = x.length + 1 := by omega
        have HD := hide (WS_done hws.out)
        go_wp2_with fail
        go_ret
        exact ⟨_, rfl, by rw [HD.out]; exact hown, hbel⟩
end Go.Proofs.YtgdmgmklncmanaaGreatDoor
