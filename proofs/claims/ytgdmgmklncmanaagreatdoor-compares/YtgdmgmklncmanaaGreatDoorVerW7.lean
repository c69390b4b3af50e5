/- The walks over a version's parts: isEpoch, isMain, isRevision; strings.Cut at a colon. -/
import Derived.Test.YtgdmgmklncmanaaGreatDoorVerW6
import Derived.Test.YtgdmgmklncmanaaGreatDoorVerCuts
namespace Go.Proofs.YtgdmgmklncmanaaGreatDoor
open Go.RowKit

theorem all_list (g : Nat) (f : UInt8 → Bool) (he : ∀ args w, (callFunc g args).run Tryz.prog w = .ok (.enter g args) w)
    (hg : ∀ (c : UInt8) (w : World), Calls Tryz.prog g #[.int .u8 c.toNat] w fun e w' => e = .returned (.bool (f c)) ∧ w' = w)
    (x : List UInt8) (hx : x.length ≤ 24) (w : World) :
    Calls Tryz.prog 55 #[.string ⟨x.toArray⟩, .func (.func g) #[] #[]] w fun e w' => e = .returned (.bool (Ver.allL f x)) ∧ Below w.heap.size w w' :=
  all_any g f he hg ⟨x.toArray⟩ (by simp [ByteArray.size]; omega) w
theorem enters_isMainSign (args : Array Value) (w : World) : (callFunc 57 args).run Tryz.prog w = .ok (.enter 57 args) w :=
  enters Tryz.func57 (by kernel_rfl) rfl args w
theorem enters_isRevisionSign (args : Array Value) (w : World) : (callFunc 58 args).run Tryz.prog w = .ok (.enter 58 args) w :=
  enters Tryz.func58 (by kernel_rfl) rfl args w

set_option maxHeartbeats 400000 in
theorem isEpoch_any (x : List UInt8) (hx : x.length ≤ 24) (w : World) :
    Calls Tryz.prog 29 #[.string ⟨x.toArray⟩] w fun e w' => e = .returned (.bool (Ver.okE x)) ∧ Below w.heap.size w w' := by
  by_cases h1 : 1 ≤ x.length
  · by_cases h2 : x.length ≤ 4
    · have e1 : Ver.okE x = Ver.allL Ver.isD x := by simp [Ver.okE, h1, h2]
      rw [e1]
      go_enter Tryz.func29, Tryz.ntmps29
      go_wp2_with (go_at_call 55; refine (all_list _ _ enters_isDigit isDigit_any x hx _).mono ?_; rintro e w' ⟨rfl, hb⟩)
      go_ret
      exact ⟨rfl, hb⟩
    · have e1 : Ver.okE x = false := by simp [Ver.okE, h2]
      rw [e1]
      go_enter Tryz.func29, Tryz.ntmps29
      go_wp2
      go_ret
      exact ⟨rfl, Below.refl _ _⟩
  · have e1 : Ver.okE x = false := by simp [Ver.okE, h1]
    rw [e1]
    go_enter Tryz.func29, Tryz.ntmps29
    go_wp2
    go_ret
    exact ⟨rfl, Below.refl _ _⟩

set_option maxHeartbeats 400000 in
theorem isRevision_any (x : List UInt8) (hx : x.length ≤ 24) (w : World) :
    Calls Tryz.prog 31 #[.string ⟨x.toArray⟩] w fun e w' => e = .returned (.bool (Ver.okR x)) ∧ Below w.heap.size w w' := by
  rcases x with _ | ⟨c, l⟩
  · go_enter Tryz.func31, Tryz.ntmps31
    go_wp2
    go_ret
    exact ⟨rfl, Below.refl _ _⟩
  · go_enter Tryz.func31, Tryz.ntmps31
    go_wp2_with (go_at_call 55; refine (all_list _ _ enters_isRevisionSign isRevisionSign_any (c :: l) hx _).mono ?_; rintro e w' ⟨rfl, hb⟩)
    go_ret
    exact ⟨rfl, hb⟩

set_option maxHeartbeats 400000 in
theorem isMain_any (x : List UInt8) (hx : x.length ≤ 24) (w : World) :
    Calls Tryz.prog 30 #[.string ⟨x.toArray⟩] w fun e w' => e = .returned (.bool (Ver.okM x)) ∧ Below w.heap.size w w' := by
  rcases x with _ | ⟨c, l⟩
  · go_enter Tryz.func30, Tryz.ntmps30
    go_wp2
    go_ret
    exact ⟨rfl, Below.refl _ _⟩
  · cases hc : Ver.isD c
    · have e1 : Ver.okM (c :: l) = false := by simp [Ver.okM, hc]
      rw [e1]
      go_enter Tryz.func30, Tryz.ntmps30
      go_wp2_with (go_at_call 56; refine (isDigit_any c _).mono ?_; rintro e w' ⟨rfl, rfl⟩)
      go_ret
      exact ⟨rfl, Below.refl _ _⟩
    · have e1 : Ver.okM (c :: l) = Ver.allL Ver.isM (c :: l) := by simp [Ver.okM, hc]
      rw [e1]
      go_enter Tryz.func30, Tryz.ntmps30
      go_wp2_with (first
        | (go_at_call 56; refine (isDigit_any c _).mono ?_; rintro e w' ⟨rfl, rfl⟩)
        | (go_at_call 55; refine (all_list _ _ enters_isMainSign isMainSign_any (c :: l) hx _).mono ?_; rintro e w' ⟨rfl, hb⟩))
      go_ret
      exact ⟨rfl, hb⟩
end Go.Proofs.YtgdmgmklncmanaaGreatDoor
