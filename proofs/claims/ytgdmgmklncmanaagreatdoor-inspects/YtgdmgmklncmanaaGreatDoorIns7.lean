/- Of Ins: RefX4, ArcW1, ArcMath, DigW1. -/
import Derived.Test.YtgdmgmklncmanaaGreatDoorIns5
import Derived.Test.YtgdmgmklncmanaaGreatDoorIns6
import Derived.BigCall
import Derived.Test.YtgdmgmklncmanaaGreatDoorIns4
import Derived.Test.YtgdmgmklncmanaaGreatDoorIns1
import Derived.BigRegion
/- The walk over the document's own answer on a line's words: a slice that the call gathers. -/
namespace Go.Proofs.YtgdmgmklncmanaaGreatDoor
open Go.RowKit

/-- What stands between single blanks. -/
def spl : List UInt8 → List (List UInt8)
  | [] => [[]]
  | c :: l => if c = 32 then [] :: spl l else match spl l with
    | [] => [[c]]
    | h :: t => (c :: h) :: t
theorem spl_none : ∀ u : List UInt8, (∀ c ∈ u, c ≠ 32) → spl u = [u]
  | [], _ => rfl
  | c :: l, h => by
    have ih := spl_none l fun d hd => h d (by simp [hd])
    have hc : c ≠ 32 := h c (by simp)
    simp [spl, hc, ih]
theorem spl_cut : ∀ (u v : List UInt8), (∀ c ∈ u, c ≠ 32) → spl (u ++ 32 :: v) = u :: spl v
  | [], v, _ => by simp [spl]
  | c :: l, v, h => by
    have ih := spl_cut l v fun d hd => h d (by simp [hd])
    have hc : c ≠ 32 := h c (by simp)
    simp [spl, hc, ih]
theorem spl_at {x : List UInt8} {f k : Nat} (hf : f ≤ k) (hk : k < x.length) (hx : x[k] = 32) (hn : ((x.drop f).take (k - f)).all (fun c => c != 32) = true) : spl (x.drop f) = (x.drop f).take (k - f) :: spl (x.drop (k + 1)) := by
  have hk' : k - f < (x.drop f).length := by rw [List.length_drop]; omega
  have e : x.drop f = (x.drop f).take (k - f) ++ 32 :: x.drop (k + 1) := by
    conv => lhs; rw [← List.take_append_drop (k - f) (x.drop f), List.drop_eq_getElem_cons hk']
    rw [List.getElem_drop, List.drop_drop]
    congr 2
    · rw [← hx]; congr 1; omega
    · congr 1; omega
  conv => lhs; rw [e]
  exact spl_cut _ _ (all_ne hn)
theorem spl_len (x : List UInt8) : (spl x).length ≤ x.length + 1 := by
  induction x with
  | nil => simp [spl]
  | cons c l ih =>
    rw [spl]
    split
    · simp; omega
    · split
      · simp
      · rename_i h t e
        rw [e] at ih; simp at ih ⊢; omega
def strs (l : List (List UInt8)) : List Value := l.map fun x => .string ⟨x.toArray⟩
theorem strs_snoc (l : List (List UInt8)) (x : List UInt8) : strs (l ++ [x]) = strs l ++ [.string ⟨x.toArray⟩] := by simp [strs]
theorem cut_mid (x : List UInt8) (f k : Nat) : (⟨x.toArray⟩ : ByteArray).extract f k = ⟨((x.drop f).take (k - f)).toArray⟩ := by
  apply bytes_ext; simp [ByteArray.data_extract, List.extract]
theorem mid_on {x : List UInt8} {f k : Nat} (hf : f ≤ k) (hk : k < x.length) (hn : ((x.drop f).take (k - f)).all (fun c => c != 32) = true) (hx : x[k] ≠ 32) : ((x.drop f).take (k + 1 - f)).all (fun c => c != 32) = true := by
  have hk' : k - f < (x.drop f).length := by rw [List.length_drop]; omega
  rw [show k + 1 - f = (k - f) + 1 from by omega, List.take_succ_eq_append_getElem hk', List.all_append, hn]
  have : (x.drop f)[k - f] = x[k] := by rw [List.getElem_drop]; congr 1; omega
  simp [this, hx]
theorem info_str : (Tryz.prog.info? 9).map (fun i => (i.zero, i.size, i.bytes)) = some (some (.string ByteArray.empty), 1, 16) := by kernel_rfl
theorem info_parts' {P : Program} {t : TypeId} {z : Value} {n b : Nat} (h : (P.info? t).map (fun i => (i.zero, i.size, i.bytes)) = some (some z, n, b)) : ∃ i0, P.info? t = some i0 ∧ i0.zero = some z ∧ i0.size = n ∧ i0.bytes = b := by
  cases hi : P.info? t with
  | none => simp [hi] at h
  | some i => simp [hi] at h; exact ⟨i, rfl, h.1, h.2.1, h.2.2⟩

/-- Where the walk stands: the words so far; how far the text has been read; where the present word began. -/
def WS (x : List UInt8) (k f : Nat) (p : List (List UInt8)) : Prop :=
  p.length ≤ k ∧ ((k ≤ x.length ∧ f ≤ k ∧ spl x = p ++ spl (x.drop f) ∧ ((x.drop f).take (k - f)).all (fun c => c != 32) = true) ∨ (k = x.length + 1 ∧ spl x = p))

theorem WS_at {x : List UInt8} {k f : Nat} {p : List (List UInt8)} (h : WS x k f p) (hk : k ≤ x.length) : p.length ≤ k ∧ f ≤ k ∧ spl x = p ++ spl (x.drop f) ∧ ((x.drop f).take (k - f)).all (fun c => c != 32) = true := by
  obtain ⟨h1, ⟨_, h2, h3, h4⟩ | ⟨h2, _⟩⟩ := h
  · exact ⟨h1, h2, h3, h4⟩
  · omega
theorem WS_keep {x : List UInt8} {k f : Nat} {p : List (List UInt8)} (h : WS x k f p) (hk : k < x.length) (hx : x[k] ≠ 32) : WS x (k + 1) f p := by
  obtain ⟨h1, h2, h3, h4⟩ := WS_at h (by omega)
  exact ⟨by omega, .inl ⟨by omega, by omega, h3, mid_on h2 hk h4 hx⟩⟩
theorem WS_cut {x : List UInt8} {k f : Nat} {p : List (List UInt8)} (h : WS x k f p) (hk : k < x.length) (hx : x[k] = 32) : WS x (k + 1) (k + 1) (p ++ [(x.drop f).take (k - f)]) := by
  obtain ⟨h1, h2, h3, h4⟩ := WS_at h (by omega)
  refine ⟨by simp; omega, .inl ⟨by omega, by omega, ?_, by simp⟩⟩
  rw [h3, spl_at h2 hk hx h4]; simp
theorem WS_end {x : List UInt8} {f : Nat} {p : List (List UInt8)} (h : WS x x.length f p) : WS x (x.length + 1) (x.length + 1) (p ++ [(x.drop f).take (x.length - f)]) := by
  obtain ⟨h1, h2, h3, h4⟩ := WS_at h (by omega)
  refine ⟨by simp; omega, .inr ⟨rfl, ?_⟩⟩
  have e : (x.drop f).take (x.length - f) = x.drop f := List.take_of_length_le (by rw [List.length_drop]; omega)
  rw [e] at h4
  rw [h3, spl_none _ (all_ne h4), e]
theorem WS_done {x : List UInt8} {f : Nat} {p : List (List UInt8)} (h : WS x (x.length + 1) f p) : spl x = p := by
  obtain ⟨_, ⟨h2, _⟩ | ⟨_, h2⟩⟩ := h
  · omega
  · exact h2
theorem WS_le {x : List UInt8} {k f : Nat} {p : List (List UInt8)} (h : WS x k f p) : p.length ≤ k := h.1
theorem own_shape {w : World} {base : Nat} {t : TypeId} {v : Value} {n : Nat} {xs : List Value} (h : w.ownsRow base t 1 v n xs) (hn : 0 < n) : ∃ g cap, v = .slice (some ⟨g, 0, none⟩) n cap := by
  rcases h.2 with ⟨_, h⟩ | ⟨g, cap, _, h, _⟩
  · omega
  · exact ⟨g, cap, h⟩

set_option maxRecDepth 8000 in
set_option maxHeartbeats 2000000 in
theorem rwords_any (x : List UInt8) (hx : x.length ≤ 2000) (w : World) :
    Calls Tryz.prog 21 #[.string ⟨x.toArray⟩] w fun e w' => ∃ v, e = .returned v ∧ w'.ownsRow w.heap.size 9 1 v (spl x).length (strs (spl x)) ∧ Below w.heap.size w w' := by
  obtain ⟨i0, hi, hz0, hz1, hz2⟩ := info_parts' info_str
  go_enter Tryz.func21, Tryz.ntmps21
  go_wp2_with fail
  go_loopw [3, 4, 5] (fun o fr i wr => ∃ (k f : Nat) (p : List (List UInt8)) (ao : Option Addr) (cv : Nat), o = .slice ao p.length cv ∧ i = .int .i64 k ∧ fr = .int .i64 f ∧ Hid (WS x k f p) ∧ k ≤ x.length + 1 ∧ f ≤ x.length + 1 ∧ p.length ≤ 2001 ∧ wr.ownsRow w.heap.size 9 1 o p.length (strs p) ∧ Below w.heap.size w wr)
    (fun _ _ i _ => x.length + 1 - (intOf i).toNat)
  case atStart => exact ⟨0, 0, [], none, 0, rfl, rfl, rfl, hide ⟨by simp, .inl ⟨by omega, by omega, by simp, rfl⟩⟩, by omega, by omega, by simp, World.ownsRow_nil _ _ _ _, Below.refl _ _⟩
  case round =>
    obtain ⟨k, f, p, ao, cv, rfl, rfl, rfl, hws, hk, hf, hp, hown, hbel⟩ := hrel
    have hsize := hbel.size
    by_cases hlt : k < x.length
    · have hfk := (WS_at hws.out (by omega)).2.1
      obtain ⟨c, hc, hcx⟩ : ∃ c, (⟨x.toArray⟩ : ByteArray)[k]'hlt = c ∧ x[k] = c := ⟨_, rfl, rfl⟩
      have hne : ((k : Int) == (x.length : Int)) = false := beq_eq_false_iff_ne.2 (by omega)
      cases hd : ((c.toNat : Int) == 32)
      · have HWN := hide (WS_keep hws.out hlt (by rw [hcx]; intro e; subst e; simp at hd))
        clear hcx
        go_wp2_with fail
        go_roundw
        case rel => exact ⟨k + 1, f, p, ao, cv, rfl, by go_num, rfl, HWN, by omega, by omega, hp, hown, hbel⟩
        case measure => simp [intOf]; omega
      · have HWN := hide (WS_cut hws.out hlt (by rw [hcx]; exact UInt8.toNat_inj.1 (by have := eq_of_beq hd; simp; omega)))
        clear hcx
        go_wp2_with (first
          | (at_builtin; refine wpList_append_own _ rfl _ _ 30 rfl w.heap.size 9 i0 (.string ByteArray.empty) 1 16 Tryz.underlying30 hi hz0 hz1 hz2 rfl (by decide) _ _ _ rfl (hown.alloc _) ⟨wr.heap.size, 0, none⟩ 1 1 [.string ((⟨x.toArray⟩ : ByteArray).extract f k)] rfl rfl (cell_one_new _ _ _) (fun x hx => by simp at hx; subst hx; rfl) (by unfold maxLen; omega) (by omega) (by simp; omega) ?_; intro v' w3 hown' hgrow3 hnil3))
        go_roundw
        case rel =>
          obtain ⟨g3, cap3, hv3⟩ := own_shape hown' (by omega)
          have HV := HWN.out
          have hle := WS_le HV
          have e3 : strs p ++ [.string ((⟨x.toArray⟩ : ByteArray).extract f k)] = strs (p ++ [(x.drop f).take (k - f)]) := by rw [cut_mid]; exact (strs_snoc _ _).symm
          rw [e3] at hown'
          refine ⟨k + 1, k + 1, p ++ [(x.drop f).take (k - f)], some ⟨g3, 0, none⟩, cap3, by rw [hv3]; simp, by go_num, by go_num, HWN, by omega, by omega, by simp at hle ⊢; omega, by rw [List.length_append]; exact hown', (hbel.alloc hsize _).grown hgrow3 (by simp; omega) (fun q hq => (hown.lt q hq).1)⟩
        case measure => simp [intOf]; omega
    · by_cases hend : k = x.length
      · subst hend
        have hfk := (WS_at hws.out (by omega)).2.1
        have HWN := hide (WS_end hws.out)
        go_wp2_with (first
          | (at_builtin; refine wpList_append_own _ rfl _ _ 30 rfl w.heap.size 9 i0 (.string ByteArray.empty) 1 16 Tryz.underlying30 hi hz0 hz1 hz2 rfl (by decide) _ _ _ rfl (hown.alloc _) ⟨wr.heap.size, 0, none⟩ 1 1 [.string ((⟨x.toArray⟩ : ByteArray).extract f x.length)] rfl rfl (cell_one_new _ _ _) (fun x hx => by simp at hx; subst hx; rfl) (by unfold maxLen; omega) (by omega) (by simp; omega) ?_; intro v' w3 hown' hgrow3 hnil3))
        go_roundw
        case rel =>
          obtain ⟨g3, cap3, hv3⟩ := own_shape hown' (by omega)
          have HV := HWN.out
          have hle := WS_le HV
          have e3 : strs p ++ [.string ((⟨x.toArray⟩ : ByteArray).extract f x.length)] = strs (p ++ [(x.drop f).take (x.length - f)]) := by rw [cut_mid]; exact (strs_snoc _ _).symm
          rw [e3] at hown'
          refine ⟨x.length + 1, x.length + 1, p ++ [(x.drop f).take (x.length - f)], some ⟨g3, 0, none⟩, cap3, by rw [hv3]; simp, by go_num, by go_num, HWN, by omega, by omega, by simp at hle ⊢; omega, by rw [List.length_append]; exact hown', (hbel.alloc hsize _).grown hgrow3 (by simp; omega) (fun q hq => (hown.lt q hq).1)⟩
        case measure => simp [intOf]
      · obtain rfl : k = x.length + 1 := by omega
        have HD := hide (WS_done hws.out)
        go_wp2_with fail
        go_ret
        exact ⟨_, rfl, by rw [HD.out]; exact hown, hbel⟩
end Go.Proofs.YtgdmgmklncmanaaGreatDoor
/- The walks over the kinds of lines, and what asks a version. -/
namespace Go.Proofs.YtgdmgmklncmanaaGreatDoor
open Go.RowKit

theorem isVersion_any (x : List UInt8) (w : World) :
    Calls Tryz.prog 69 #[.string ⟨x.toArray⟩] w fun e w' => e = .returned (.bool (Ver.fine x)) ∧ Below w.heap.size w w' := by
  cases h : Ver.fine x
  · go_enter Tryz.func69, Tryz.ntmps69
    go_wp2_with (go_at_call 13; refine (parse_bad x h _).mono ?_; rintro e w' ⟨rfl, hb⟩)
    go_ret
    exact ⟨rfl, hb.alloc hb.size _⟩
  · go_enter Tryz.func69, Tryz.ntmps69
    go_wp2_with (go_at_call 13; refine (parse_ok x h _).mono ?_; rintro e w' ⟨rfl, hb⟩)
    go_ret
    exact ⟨rfl, hb.alloc hb.size _⟩

/-- The kinds' words, as bytes: haven, name, version, needs, breaks, wakes, file, run, woken. -/
def kwords : List (List UInt8) := [[104, 97, 118, 101, 110], [110, 97, 109, 101], [118, 101, 114, 115, 105, 111, 110], [110, 101, 101, 100, 115], [98, 114, 101, 97, 107, 115], [119, 97, 107, 101, 115], [102, 105, 108, 101], [114, 117, 110], [119, 111, 107, 101, 110]]
/-- A line's kind by its first word, 1 to 6; 0: none. -/
def kd (x : List UInt8) : Int :=
  if x == [110, 101, 101, 100, 115] then 1 else if x == [98, 114, 101, 97, 107, 115] then 2 else if x == [119, 97, 107, 101, 115] then 3
  else if x == [102, 105, 108, 101] then 4 else if x == [114, 117, 110] then 5 else if x == [119, 111, 107, 101, 110] then 6 else 0

set_option maxHeartbeats 400000 in
theorem kindOf_any (x : List UInt8) (w : World) :
    Calls Tryz.prog 70 #[.string ⟨x.toArray⟩] w fun e w' => e = .returned (.int .i64 (kd x)) ∧ w' = w := by
  go_enter Tryz.func70, Tryz.ntmps70
  go_wp2
  all_goals
    go_ret
    exact ⟨ret_int (by simp only [kd, *]; rfl), rfl⟩

/-- The same by the document's own count: 0 to 8; -1: none. -/
def rkd (x : List UInt8) : Int :=
  if x == [104, 97, 118, 101, 110] then 0 else if x == [110, 97, 109, 101] then 1 else if x == [118, 101, 114, 115, 105, 111, 110] then 2 else if kd x = 0 then -1 else kd x + 2

/-- None of the first k kinds' words is x. -/
def noneOf (x : List UInt8) (k : Nat) : Bool := (kwords.take k).all fun y => !(y == x)
theorem noneOf_step {x : List UInt8} {k : Nat} (h : noneOf x k = true) (y : List UInt8) (hy : kwords[k]? = some y) (hn : (y == x) = false) : noneOf x (k + 1) = true := by
  rw [noneOf] at h ⊢
  obtain ⟨hk, rfl⟩ := List.getElem?_eq_some_iff.1 hy
  rw [List.take_succ_eq_append_getElem hk, List.all_append, h]
  simp [hn]
theorem rkd_none {x : List UInt8} (h : noneOf x 9 = true) : rkd x = -1 := by
  simp only [noneOf, kwords, List.take, List.all_cons, List.all_nil, Bool.and_eq_true, Bool.not_eq_true', Bool.and_true] at h
  obtain ⟨h0, h1, h2, h3, h4, h5, h6, h7, h8⟩ := h
  have c : ∀ {a : List UInt8}, (a == x) = false → (x == a) = false := fun h => by rw [beq_eq_false_iff_ne] at h ⊢; exact fun e => h e.symm
  simp [rkd, kd, c h0, c h1, c h2, c h3, c h4, c h5, c h6, c h7, c h8]

set_option maxRecDepth 8000 in
set_option maxHeartbeats 2000000 in
theorem rkind_any (x : List UInt8) (w : World) :
    Calls Tryz.prog 22 #[.string ⟨x.toArray⟩] w fun e w' => e = .returned (.int .i64 (rkd x)) ∧ Below w.heap.size w w' := by
  go_enter Tryz.func22, Tryz.ntmps22
  go_wp2
  go_loop [4] (fun i => ∃ k : Nat, k ≤ 9 ∧ i = .int .i64 k ∧ Hid (noneOf x k = true)) (fun i => 9 - (intOf i).toNat)
  case atStart => exact ⟨0, by omega, rfl, hide rfl⟩
  case round =>
    obtain ⟨k, hk, rfl, hn⟩ := hrel
    rcases (show k = 0 ∨ k = 1 ∨ k = 2 ∨ k = 3 ∨ k = 4 ∨ k = 5 ∨ k = 6 ∨ k = 7 ∨ k = 8 ∨ k = 9 from by omega) with rfl | rfl | rfl | rfl | rfl | rfl | rfl | rfl | rfl | rfl
    · go_wp2
      · rename_i hx _
        have hx' := eq_of_beq hx
        subst hx'
        go_ret
        exact ⟨ret_int (by decide), (Below.refl _ _).alloc (Nat.le_refl _) _⟩
      · exact ⟨⟨1, by omega, by go_num, hide (noneOf_step hn.out _ rfl (by assumption))⟩, by simp [intOf]⟩
    · go_wp2
      · rename_i hx _
        have hx' := eq_of_beq hx
        subst hx'
        go_ret
        exact ⟨ret_int (by decide), (Below.refl _ _).alloc (Nat.le_refl _) _⟩
      · exact ⟨⟨2, by omega, by go_num, hide (noneOf_step hn.out _ rfl (by assumption))⟩, by simp [intOf]⟩
    · go_wp2
      · rename_i hx _
        have hx' := eq_of_beq hx
        subst hx'
        go_ret
        exact ⟨ret_int (by decide), (Below.refl _ _).alloc (Nat.le_refl _) _⟩
      · exact ⟨⟨3, by omega, by go_num, hide (noneOf_step hn.out _ rfl (by assumption))⟩, by simp [intOf]⟩
    · go_wp2
      · rename_i hx _
        have hx' := eq_of_beq hx
        subst hx'
        go_ret
        exact ⟨ret_int (by decide), (Below.refl _ _).alloc (Nat.le_refl _) _⟩
      · exact ⟨⟨4, by omega, by go_num, hide (noneOf_step hn.out _ rfl (by assumption))⟩, by simp [intOf]⟩
    · go_wp2
      · rename_i hx _
        have hx' := eq_of_beq hx
        subst hx'
        go_ret
        exact ⟨ret_int (by decide), (Below.refl _ _).alloc (Nat.le_refl _) _⟩
      · exact ⟨⟨5, by omega, by go_num, hide (noneOf_step hn.out _ rfl (by assumption))⟩, by simp [intOf]⟩
    · go_wp2
      · rename_i hx _
        have hx' := eq_of_beq hx
        subst hx'
        go_ret
        exact ⟨ret_int (by decide), (Below.refl _ _).alloc (Nat.le_refl _) _⟩
      · exact ⟨⟨6, by omega, by go_num, hide (noneOf_step hn.out _ rfl (by assumption))⟩, by simp [intOf]⟩
    · go_wp2
      · rename_i hx _
        have hx' := eq_of_beq hx
        subst hx'
        go_ret
        exact ⟨ret_int (by decide), (Below.refl _ _).alloc (Nat.le_refl _) _⟩
      · exact ⟨⟨7, by omega, by go_num, hide (noneOf_step hn.out _ rfl (by assumption))⟩, by simp [intOf]⟩
    · go_wp2
      · rename_i hx _
        have hx' := eq_of_beq hx
        subst hx'
        go_ret
        exact ⟨ret_int (by decide), (Below.refl _ _).alloc (Nat.le_refl _) _⟩
      · exact ⟨⟨8, by omega, by go_num, hide (noneOf_step hn.out _ rfl (by assumption))⟩, by simp [intOf]⟩
    · go_wp2
      · rename_i hx _
        have hx' := eq_of_beq hx
        subst hx'
        go_ret
        exact ⟨ret_int (by decide), (Below.refl _ _).alloc (Nat.le_refl _) _⟩
      · exact ⟨⟨9, by omega, by go_num, hide (noneOf_step hn.out _ rfl (by assumption))⟩, by simp [intOf]⟩
    · have hr := hide (rkd_none hn.out)
      go_wp2
      go_ret
      exact ⟨ret_int hr.out.symm, (Below.refl _ _).alloc (Nat.le_refl _) _⟩
end Go.Proofs.YtgdmgmklncmanaaGreatDoor
/- What an archive says: the program's own reading, as plain mathematics. -/
namespace Go.Proofs.YtgdmgmklncmanaaGreatDoor
namespace Arc
abbrev S := List UInt8

theorem spl_sp : ∀ x : S, spl x = sp 32 x
  | [] => rfl
  | c :: l => by
    rw [spl, sp, spl_sp l]
    cases sp 32 l <;> rfl

/-! ### Commands -/
structure Cmd where
  verb : Int
  path : S
  word : S
  frm : S
def Cmd.zero : Cmd := ⟨0, [], [], []⟩
/-- Of a command's words: which word it is; 0: none. -/
def vb (x : S) : Int :=
  if x == [112, 117, 116] then 1 else if x == [97, 100, 100] then 2 else if x == [99, 111, 112, 121] then 3 else if x == [100, 114, 111, 112] then 4 else if x == [108, 105, 115, 116] then 5 else 0
def pcmd : List S → Cmd × Bool
  | v :: p :: rest =>
    if vb v = 1 ∨ vb v = 2 then match rest with
      | [q] => if Wd.isWord q && Wd.isVar p then (⟨vb v, p, q, []⟩, true) else (.zero, false)
      | _ => (.zero, false)
    else if vb v = 3 then match rest with
      | [q] => if Wd.isPath p && Wd.isVar q then (⟨vb v, q, [], p⟩, true) else (.zero, false)
      | _ => (.zero, false)
    else if vb v = 4 ∨ vb v = 5 then match rest with
      | [] => if Wd.isVar p then (⟨vb v, p, [], []⟩, true) else (.zero, false)
      | _ => (.zero, false)
    else (.zero, false)
  | _ => (.zero, false)

/-! ### Lines: what has been read, and the contents that no file has taken yet -/
structure St where
  needs : List (S × S)
  breaks : List S
  wakes : List S
  files : List (S × S)
  runs : List Cmd
  wokens : List Cmd
  left : S
def St.of (c : S) : St := ⟨[], [], [], [], [], [], c⟩

variable (short : S → S)
/-- One line more, of a kind, behind its first word. -/
def pline (st : St) (k : Int) (rest : List S) : Option St :=
  if k = 1 then match rest with
    | [n] => if Wd.isName n then some { st with needs := st.needs ++ [(n, [])] } else none
    | [n, v] => if Ver.fine v && Wd.isName n then some { st with needs := st.needs ++ [(n, v)] } else none
    | _ => none
  else if k = 2 then match rest with
    | [n] => if Wd.isName n then some { st with breaks := st.breaks ++ [n] } else none
    | _ => none
  else if k = 3 then match rest with
    | [p] => if Wd.isPath p then some { st with wakes := st.wakes ++ [p] } else none
    | _ => none
  else if k = 4 then match rest with
    | [p, z, h] =>
      if 0 ≤ sz z ∧ sz z ≤ st.left.length ∧ Wd.isPath p = true ∧ Wd.under p = false ∧ (st.files.any fun f => f.1 == p) = false ∧ short (st.left.take (sz z).toNat) = h then
        some { st with files := st.files ++ [(p, st.left.take (sz z).toNat)], left := st.left.drop (sz z).toNat } else none
    | _ => none
  else if k = 5 then if (pcmd rest).2 = true ∧ (pcmd rest).1.verb ≠ 5 then some { st with runs := st.runs ++ [(pcmd rest).1] } else none
  else if k = 6 then if (pcmd rest).2 = true then some { st with wokens := st.wokens ++ [(pcmd rest).1] } else none
  else none

/-- All lines behind the first three; the last one's kind. -/
def pbody (st : St) (last : Int) : List S → Option St
  | [] => some st
  | l :: ls =>
    if kd (sp 32 l).head! = 0 ∨ kd (sp 32 l).head! < last then none else
      match pline short st (kd (sp 32 l).head!) (sp 32 l).tail with
      | none => none
      | some st' => pbody st' (kd (sp 32 l).head!) ls

/-- A text behind a beginning; without it: the text. -/
def behind (p x : S) : S := if p.isPrefixOf x then x.drop p.length else x
def wHaven : S := [104, 97, 118, 101, 110, 32, 49]
def wName : S := [110, 97, 109, 101, 32]
def wVersion : S := [118, 101, 114, 115, 105, 111, 110, 32]
/-- The first three lines. -/
def headOk (a b c : S) : Bool :=
  (a == wHaven) && wName.isPrefixOf b && wVersion.isPrefixOf c && Wd.isName (behind wName b) && Ver.fine (behind wVersion c)

/-- Name, version, and the rest of an archive. -/
def parse (x : S) : Option (S × S × St) :=
  if 2000 < x.length then none else
  match cutTwo x with
  | none => none
  | some (head, contents) =>
    match sp 10 head with
    | a :: b :: c :: ls =>
      if 21 < ls.length then none
      else if headOk a b c = true then
        match pbody short (.of contents) 0 ls with
        | none => none
        | some st => if st.left = [] then some (behind wName b, behind wVersion c, st) else none
      else none
    | _ => none
end Arc
end Go.Proofs.YtgdmgmklncmanaaGreatDoor
/- The walks over the words' turns, of both ways to the digest. -/
namespace Go.Proofs.YtgdmgmklncmanaaGreatDoor
open Go.RowKit

/-- A word turned to the right. -/
def rot (x : Int) (n : Nat) : Int := bits BinOp.or IntKind.u32 (x / 2 ^ n) (x * 2 ^ (32 - n) % 4294967296)

theorem rturn_any (x : Int) (n : Nat) (hn : 1 ≤ n) (hn' : n ≤ 31) (w : World) :
    Calls Tryz.prog 75 #[.int .u32 x, .int .i64 n] w fun e w' => e = .returned (.int .u32 (rot x n)) ∧ Below w.heap.size w w' := by
  go_enter Tryz.func75, Tryz.ntmps75
  go_wp2
  go_region
  all_goals go_wp2_with fail
  all_goals go_ret
  all_goals exact ⟨rfl, (Below.refl _ _).drew⟩
theorem bits_or_comm (k : IntKind) (a b : Int) : bits BinOp.or k a b = bits BinOp.or k b a := by
  simp only [bits]; rw [BitVec.or_comm]
theorem turn_count : ∀ n, 1 ≤ n → n < 32 → bits BinOp.and IntKind.u64 (IntKind.u64.wrap (-(n : Nat) : Int)) 31 = ((32 - n : Nat) : Int) := by
  have h : ∀ n : Fin 32, 1 ≤ n.val → bits BinOp.and IntKind.u64 (IntKind.u64.wrap (-(n.val : Int))) 31 = ((32 - n.val : Nat) : Int) := by decide
  exact fun n h0 h1 => h ⟨n, h1⟩ h0

theorem dturn_any (x : Int) (n : Nat) (hn : 1 ≤ n) (hn' : n ≤ 31) (w : World) :
    Calls Tryz.prog 154 #[.int .u32 x, .int .i64 n] w fun e w' => e = .returned (.int .u32 (rot x n)) ∧ w' = w := by
  have hs := turn_count n hn (by omega)
  obtain ⟨m, hm⟩ : ∃ m, 32 - n = m := ⟨_, rfl⟩
  have hm0 : 32 - m = n := by omega
  have hr : rot x n = bits BinOp.or IntKind.u32 (x * 2 ^ m % 4294967296) (x / 2 ^ (32 - m)) := by rw [rot, bits_or_comm, hm, hm0]
  rw [hm] at hs
  have HR := hide hr; clear hr
  have hm1 : m ≤ 31 := by omega
  have hm2 : 1 ≤ m := by omega
  clear hm hm0
  go_enter Tryz.func154, Tryz.ntmps154
  go_wp2
  all_goals go_ret
  all_goals exact ⟨by rw [HR.out]; rfl, rfl⟩
/-- The same at a count that is written out. -/
theorem dturn_at (x k : Int) (hk : 1 ≤ k) (hk' : k ≤ 31) (w : World) :
    Calls Tryz.prog 154 #[.int .u32 x, .int .i64 k] w fun e w' => e = .returned (.int .u32 (rot x k.toNat)) ∧ w' = w := by
  obtain ⟨n, rfl⟩ : ∃ n : Nat, k = n := ⟨k.toNat, by omega⟩
  exact dturn_any x n (by omega) (by omega) w
theorem rturn_at (x k : Int) (hk : 1 ≤ k) (hk' : k ≤ 31) (w : World) :
    Calls Tryz.prog 75 #[.int .u32 x, .int .i64 k] w fun e w' => e = .returned (.int .u32 (rot x k.toNat)) ∧ Below w.heap.size w w' := by
  obtain ⟨n, rfl⟩ : ∃ n : Nat, k = n := ⟨k.toNat, by omega⟩
  exact rturn_any x n (by omega) (by omega) w

/-- The four mixtures of turns. -/
def xor3 (a b c : Int) : Int := bits BinOp.xor IntKind.u32 (bits BinOp.xor IntKind.u32 a b) c
def sB0 (x : Int) : Int := xor3 (rot x 2) (rot x 13) (rot x 22)
def sB1 (x : Int) : Int := xor3 (rot x 6) (rot x 11) (rot x 25)
def sS0 (x : Int) : Int := xor3 (rot x 7) (rot x 18) (x / 8)
def sS1 (x : Int) : Int := xor3 (rot x 17) (rot x 19) (x / 1024)

theorem bigSigma0_any (x : Int) (w : World) :
    Calls Tryz.prog 147 #[.int .u32 x] w fun e w' => e = .returned (.int .u32 (sB0 x)) ∧ w' = w := by
  go_enter Tryz.func147, Tryz.ntmps147
  go_wp2_with (go_at_call 154; refine (dturn_at _ _ (by decide) (by decide) _).mono ?_; rintro e w' ⟨rfl, rfl⟩)
  all_goals go_ret
  all_goals exact ⟨rfl, rfl⟩

theorem bigSigma1_any (x : Int) (w : World) :
    Calls Tryz.prog 146 #[.int .u32 x] w fun e w' => e = .returned (.int .u32 (sB1 x)) ∧ w' = w := by
  go_enter Tryz.func146, Tryz.ntmps146
  go_wp2_with (go_at_call 154; refine (dturn_at _ _ (by decide) (by decide) _).mono ?_; rintro e w' ⟨rfl, rfl⟩)
  all_goals go_ret
  all_goals exact ⟨rfl, rfl⟩

theorem smallSigma0_any (x : Int) (w : World) :
    Calls Tryz.prog 149 #[.int .u32 x] w fun e w' => e = .returned (.int .u32 (sS0 x)) ∧ w' = w := by
  go_enter Tryz.func149, Tryz.ntmps149
  go_wp2_with (go_at_call 154; refine (dturn_at _ _ (by decide) (by decide) _).mono ?_; rintro e w' ⟨rfl, rfl⟩)
  all_goals go_ret
  all_goals exact ⟨rfl, rfl⟩

theorem smallSigma1_any (x : Int) (w : World) :
    Calls Tryz.prog 148 #[.int .u32 x] w fun e w' => e = .returned (.int .u32 (sS1 x)) ∧ w' = w := by
  go_enter Tryz.func148, Tryz.ntmps148
  go_wp2_with (go_at_call 154; refine (dturn_at _ _ (by decide) (by decide) _).mono ?_; rintro e w' ⟨rfl, rfl⟩)
  all_goals go_ret
  all_goals exact ⟨rfl, rfl⟩
end Go.Proofs.YtgdmgmklncmanaaGreatDoor
