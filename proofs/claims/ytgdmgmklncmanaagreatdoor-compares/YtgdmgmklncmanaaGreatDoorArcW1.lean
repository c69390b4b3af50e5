/- The walks over the kinds of lines, and what asks a version. -/
import Derived.Test.YtgdmgmklncmanaaGreatDoorRefX4
import Derived.Test.YtgdmgmklncmanaaGreatDoorWordsW1
namespace Go.Proofs.YtgdmgmklncmanaaGreatDoor
open Go.RowKit

theorem isVersion_any (x : List UInt8) (w : World) :
    Calls Tryz.prog 69 #[.string ⟨x.toArray⟩] w fun e w' => e = .returned (.bool (Ver.fine x)) ∧ Below w.heap.size w w' := by
  cases h : Ver.fine x
  · go_enter Tryz.func69, Tryz.ntmps69
    go_wp2_with (go_at_call 13; refine (parse_bad x h _).mono ?_; rintro e w' ⟨rfl, hb⟩)
    go_ret
    exact ⟨rfl, hb.alloc hb.size _⟩
  · go_enter Tryz.func69, Tryz.ntmps69
    go_wp2_with (go_at_call 13; refine (parse_ok x h _).mono ?_; rintro e w' ⟨rfl, hb⟩)
    go_ret
    exact ⟨rfl, hb.alloc hb.size _⟩

/-- The kinds' words, as bytes: haven, name, version, needs, breaks, wakes, file, run, woken. -/
def kwords : List (List UInt8) := [[104, 97, 118, 101, 110], [110, 97, 109, 101], [118, 101, 114, 115, 105, 111, 110], [110, 101, 101, 100, 115], [98, 114, 101, 97, 107, 115], [119, 97, 107, 101, 115], [102, 105, 108, 101], [114, 117, 110], [119, 111, 107, 101, 110]]
/-- A line's kind by its first word, 1 to 6; 0: none. -/
def kd (x : List UInt8) : Int :=
  if x == [110, 101, 101, 100, 115] then 1 else if x == [98, 114, 101, 97, 107, 115] then 2 else if x == [119, 97, 107, 101, 115] then 3
  else if x == [102, 105, 108, 101] then 4 else if x == [114, 117, 110] then 5 else if x == [119, 111, 107, 101, 110] then 6 else 0

set_option maxHeartbeats 400000 in
theorem kindOf_any (x : List UInt8) (w : World) :
    Calls Tryz.prog 70 #[.string ⟨x.toArray⟩] w fun e w' => e = .returned (.int .i64 (kd x)) ∧ w' = w := by
  go_enter Tryz.func70, Tryz.ntmps70
  go_wp2
  all_goals
    go_ret
    exact ⟨ret_int (by simp only [kd, *]; rfl), rfl⟩

/-- The same by the document's own count: 0 to 8; -1: none. -/
def rkd (x : List UInt8) : Int :=
  if x == [104, 97, 118, 101, 110] then 0 else if x == [110, 97, 109, 101] then 1 else if x == [118, 101, 114, 115, 105, 111, 110] then 2 else if kd x = 0 then -1 else kd x + 2

/-- None of the first k kinds' words is x. -/
def noneOf (x : List UInt8) (k : Nat) : Bool := (kwords.take k).all fun y => !(y == x)
theorem noneOf_step {x : List UInt8} {k : Nat} (h : noneOf x k = true) (y : List UInt8) (hy : kwords[k]? = some y) (hn : (y == x) = false) : noneOf x (k + 1) = true := by
  rw [noneOf] at h ⊢
  obtain ⟨hk, rfl⟩ := List.getElem?_eq_some_iff.1 hy
  rw [List.take_succ_eq_append_getElem hk, List.all_append, h]
  simp [hn]
theorem rkd_none {x : List UInt8} (h : noneOf x 9 = true) : rkd x = -1 := by
  simp only [noneOf, kwords, List.take, List.all_cons, List.all_nil, Bool.and_eq_true, Bool.not_eq_true', Bool.and_true] at h
  obtain ⟨h0, h1, h2, h3, h4, h5, h6, h7, h8⟩ := h
  have c : ∀ {a : List UInt8}, (a == x) = false → (x == a) = false := fun h => by rw [beq_eq_false_iff_ne] at h ⊢; exact fun e => h e.symm
  simp [rkd, kd, c h0, c h1, c h2, c h3, c h4, c h5, c h6, c h7, c h8]

set_option maxRecDepth 8000 in
set_option maxHeartbeats 2000000 in
theorem rkind_any (x : List UInt8) (w : World) :
    Calls Tryz.prog 22 #[.string ⟨x.toArray⟩] w fun e w' => e = .returned (.int .i64 (rkd x)) ∧ Below w.heap.size w w' := by
  go_enter Tryz.func22, Tryz.ntmps22
  go_wp2
  go_loop [4] (fun i => ∃ k : Nat, k ≤ 9 ∧ i = .int .i64 k ∧ Hid (noneOf x k = true)) (fun i => 9 - (intOf i).toNat)
  case atStart => exact ⟨0, by omega, rfl, hide rfl⟩
  case round =>
    obtain ⟨k, hk, rfl, hn⟩ := hrel
    rcases (show k = 0 ∨ k = 1 ∨ k = 2 ∨ k = 3 ∨ k = 4 ∨ k = 5 ∨ k = 6 ∨ k = 7 ∨ k = 8 ∨ k = 9 from by omega) with rfl | rfl | rfl | rfl | rfl | rfl | rfl | rfl | rfl | rfl
    · go_wp2
      · rename_i hx _
        have hx' := eq_of_beq hx
        subst hx'
        go_ret
        exact ⟨ret_int (by decide), (Below.refl _ _).alloc (Nat.le_refl _) _⟩
      · exact ⟨⟨1, by omega, by go_num, hide (noneOf_step hn.out _ rfl (by assumption))⟩, by simp [intOf]⟩
    · go_wp2
      · rename_i hx _
        have hx' := eq_of_beq hx
        subst hx'
        go_ret
        exact ⟨ret_int (by decide), (Below.refl _ _).alloc (Nat.le_refl _) _⟩
      · exact ⟨⟨2, by omega, by go_num, hide (noneOf_step hn.out _ rfl (by assumption))⟩, by simp [intOf]⟩
    · go_wp2
      · rename_i hx _
        have hx' := eq_of_beq hx
        subst hx'
        go_ret
        exact ⟨ret_int (by decide), (Below.refl _ _).alloc (Nat.le_refl _) _⟩
      · exact ⟨⟨3, by omega, by go_num, hide (noneOf_step hn.out _ rfl (by assumption))⟩, by simp [intOf]⟩
    · go_wp2
      · rename_i hx _
        have hx' := eq_of_beq hx
        subst hx'
        go_ret
        exact ⟨ret_int (by decide), (Below.refl _ _).alloc (Nat.le_refl _) _⟩
      · exact ⟨⟨4, by omega, by go_num, hide (noneOf_step hn.out _ rfl (by assumption))⟩, by simp [intOf]⟩
    · go_wp2
      · rename_i hx _
        have hx' := eq_of_beq hx
        subst hx'
        go_ret
        exact ⟨ret_int (by decide), (Below.refl _ _).alloc (Nat.le_refl _) _⟩
      · exact ⟨⟨5, by omega, by go_num, hide (noneOf_step hn.out _ rfl (by assumption))⟩, by simp [intOf]⟩
    · go_wp2
      · rename_i hx _
        have hx' := eq_of_beq hx
        subst hx'
        go_ret
        exact ⟨ret_int (by decide), (Below.refl _ _).alloc (Nat.le_refl _) _⟩
      · exact ⟨⟨6, by omega, by go_num, hide (noneOf_step hn.out _ rfl (by assumption))⟩, by simp [intOf]⟩
    · go_wp2
      · rename_i hx _
        have hx' := eq_of_beq hx
        subst hx'
        go_ret
        exact ⟨ret_int (by decide), (Below.refl _ _).alloc (Nat.le_refl _) _⟩
      · exact ⟨⟨7, by omega, by go_num, hide (noneOf_step hn.out _ rfl (by assumption))⟩, by simp [intOf]⟩
    · go_wp2
      · rename_i hx _
        have hx' := eq_of_beq hx
        subst hx'
        go_ret
        exact ⟨ret_int (by decide), (Below.refl _ _).alloc (Nat.le_refl _) _⟩
      · exact ⟨⟨8, by omega, by go_num, hide (noneOf_step hn.out _ rfl (by assumption))⟩, by simp [intOf]⟩
    · go_wp2
      · rename_i hx _
        have hx' := eq_of_beq hx
        subst hx'
        go_ret
        exact ⟨ret_int (by decide), (Below.refl _ _).alloc (Nat.le_refl _) _⟩
      · exact ⟨⟨9, by omega, by go_num, hide (noneOf_step hn.out _ rfl (by assumption))⟩, by simp [intOf]⟩
    · have hr := hide (rkd_none hn.out)
      go_wp2
      go_ret
      exact ⟨ret_int hr.out.symm, (Below.refl _ _).alloc (Nat.le_refl _) _⟩
end Go.Proofs.YtgdmgmklncmanaaGreatDoor
