/- The walks over package words. -/
import Derived.Test.YtgdmgmklncmanaaGreatDoorVerW8
import Derived.Test.YtgdmgmklncmanaaGreatDoorWordsMath
namespace Go.Proofs.YtgdmgmklncmanaaGreatDoor
open Go.RowKit

set_option maxHeartbeats 400000 in
theorem wLetter_any (c : UInt8) (w : World) :
    Calls Tryz.prog 90 #[.int .u8 c.toNat] w fun e w' => e = .returned (.bool (Wd.low c)) ∧ w' = w := by
  go_enter Tryz.func90, Tryz.ntmps90
  go_wp2
  all_goals (go_ret; exact ⟨ret_bool (by simp [Wd.low]; try omega), rfl⟩)
set_option maxHeartbeats 400000 in
theorem wName_any (c : UInt8) (w : World) :
    Calls Tryz.prog 91 #[.int .u8 c.toNat] w fun e w' => e = .returned (.bool (Wd.nmS c)) ∧ w' = w := by
  go_enter Tryz.func91, Tryz.ntmps91
  go_wp2_with (go_at_call 90; refine (wLetter_any c _).mono ?_; rintro e w' ⟨rfl, rfl⟩)
  all_goals (go_ret; exact ⟨ret_bool (by simp [Wd.nmS, *]; try omega), rfl⟩)
set_option maxHeartbeats 400000 in
theorem wPath_any (c : UInt8) (w : World) :
    Calls Tryz.prog 109 #[.int .u8 c.toNat] w fun e w' => e = .returned (.bool (Wd.paS c)) ∧ w' = w := by
  go_enter Tryz.func109, Tryz.ntmps109
  go_wp2_with (go_at_call 91; refine (wName_any c _).mono ?_; rintro e w' ⟨rfl, rfl⟩)
  all_goals (go_ret; exact ⟨ret_bool (by simp [Wd.paS, *]), rfl⟩)
set_option maxHeartbeats 400000 in
theorem wWord_any (c : UInt8) (w : World) :
    Calls Tryz.prog 139 #[.int .u8 c.toNat] w fun e w' => e = .returned (.bool (Wd.woS c)) ∧ w' = w := by
  go_enter Tryz.func139, Tryz.ntmps139
  go_wp2
  all_goals (go_ret; exact ⟨ret_bool (by simp [Wd.woS]; try omega), rfl⟩)
set_option maxHeartbeats 400000 in
theorem wLen_any (x : List UInt8) (a b : Nat) (w : World) :
    Calls Tryz.prog 89 #[.string ⟨x.toArray⟩, .int .i64 a, .int .i64 b] w fun e w' => e = .returned (.bool (Wd.lenIn x a b)) ∧ w' = w := by
  go_enter Tryz.func89, Tryz.ntmps89
  go_wp2
  all_goals (go_ret; exact ⟨ret_bool (by simp [Wd.lenIn]; try omega), rfl⟩)

theorem enters_wName (args : Array Value) (w : World) : (callFunc 91 args).run Tryz.prog w = .ok (.enter 91 args) w :=
  enters Tryz.func91 (by kernel_rfl) rfl args w
theorem enters_wPath (args : Array Value) (w : World) : (callFunc 109 args).run Tryz.prog w = .ok (.enter 109 args) w :=
  enters Tryz.func109 (by kernel_rfl) rfl args w
theorem enters_wWord (args : Array Value) (w : World) : (callFunc 139 args).run Tryz.prog w = .ok (.enter 139 args) w :=
  enters Tryz.func139 (by kernel_rfl) rfl args w
theorem all_long (g : Nat) (f : UInt8 → Bool) (he : ∀ args w, (callFunc g args).run Tryz.prog w = .ok (.enter g args) w)
    (hg : ∀ (c : UInt8) (w : World), Calls Tryz.prog g #[.int .u8 c.toNat] w fun e w' => e = .returned (.bool (f c)) ∧ w' = w)
    (x : List UInt8) (hx : x.length ≤ 2000) (w : World) :
    Calls Tryz.prog 55 #[.string ⟨x.toArray⟩, .func (.func g) #[] #[]] w fun e w' => e = .returned (.bool (Ver.allL f x)) ∧ Below w.heap.size w w' :=
  all_any g f he hg ⟨x.toArray⟩ (by simp [ByteArray.size]; omega) w

set_option maxHeartbeats 400000 in
theorem isWord_any (x : List UInt8) (hx : x.length ≤ 2000) (w : World) :
    Calls Tryz.prog 126 #[.string ⟨x.toArray⟩] w fun e w' => e = .returned (.bool (Wd.isWord x)) ∧ Below w.heap.size w w' := by
  cases h : Wd.lenIn x 1 16
  · have e1 : Wd.isWord x = false := by simp [Wd.isWord, h]
    rw [e1]
    go_enter Tryz.func126, Tryz.ntmps126
    go_wp2_with (go_at_call 89; refine (wLen_any x 1 16 _).mono ?_; rintro e w' ⟨rfl, rfl⟩)
    go_ret
    exact ⟨rfl, Below.refl _ _⟩
  · have e1 : Wd.isWord x = Ver.allL Wd.woS x := by simp [Wd.isWord, h]
    rw [e1]
    go_enter Tryz.func126, Tryz.ntmps126
    go_wp2_with (first
      | (go_at_call 89; refine (wLen_any x 1 16 _).mono ?_; rintro e w' ⟨rfl, rfl⟩)
      | (go_at_call 55; refine (all_long _ _ enters_wWord wWord_any x hx _).mono ?_; rintro e w' ⟨rfl, hb⟩))
    go_ret
    exact ⟨rfl, hb⟩

set_option maxHeartbeats 400000 in
theorem isName_any (x : List UInt8) (hx : x.length ≤ 2000) (w : World) :
    Calls Tryz.prog 68 #[.string ⟨x.toArray⟩] w fun e w' => e = .returned (.bool (Wd.isName x)) ∧ Below w.heap.size w w' := by
  cases h : Wd.lenIn x 1 12
  · have e1 : Wd.isName x = false := by simp [Wd.isName, h]
    rw [e1]
    go_enter Tryz.func68, Tryz.ntmps68
    go_wp2_with (go_at_call 89; refine (wLen_any x 1 12 _).mono ?_; rintro e w' ⟨rfl, rfl⟩)
    go_ret
    exact ⟨rfl, Below.refl _ _⟩
  · have hpos : 0 < x.length := by simp [Wd.lenIn] at h; omega
    obtain ⟨c, hc, hcx⟩ : ∃ c, (⟨x.toArray⟩ : ByteArray)[0]'hpos = c ∧ Wd.headIs Wd.low x = Wd.low c := by
      cases x with
      | nil => simp at hpos
      | cons c l => exact ⟨c, rfl, rfl⟩
    have HCX := hide hcx; clear hcx
    cases hl : Wd.low c
    · have e1 : Wd.isName x = false := by simp [Wd.isName, HCX.out, hl]
      rw [e1]
      go_enter Tryz.func68, Tryz.ntmps68
      go_wp2_with (first
        | (go_at_call 89; refine (wLen_any x 1 12 _).mono ?_; rintro e w' ⟨rfl, rfl⟩)
        | (go_at_call 90; refine (wLetter_any c _).mono ?_; rintro e w' ⟨rfl, rfl⟩))
      go_ret
      exact ⟨rfl, Below.refl _ _⟩
    · have e1 : Wd.isName x = Ver.allL Wd.nmS x := by simp [Wd.isName, HCX.out, hl, h]
      rw [e1]
      go_enter Tryz.func68, Tryz.ntmps68
      go_wp2_with (first
        | (go_at_call 89; refine (wLen_any x 1 12 _).mono ?_; rintro e w' ⟨rfl, rfl⟩)
        | (go_at_call 90; refine (wLetter_any c _).mono ?_; rintro e w' ⟨rfl, rfl⟩)
        | (go_at_call 55; refine (all_long _ _ enters_wName wName_any x hx _).mono ?_; rintro e w' ⟨rfl, hb⟩))
      go_ret
      exact ⟨rfl, hb⟩
theorem under_any (x : List UInt8) (w : World) :
    Calls Tryz.prog 122 #[.string ⟨x.toArray⟩, .string ⟨#[47, 118, 97, 114, 47]⟩] w fun e w' => e = .returned (.bool (Wd.under x)) ∧ w' = w :=
  Tryz.strings_HasPrefix ⟨x.toArray⟩ ⟨#[47, 118, 97, 114, 47]⟩ w
theorem dbl_any (x : List UInt8) (hx : x.length ≤ 2000) (mx : Int) (w : World) (hm : w.cell? ⟨0, 0, none⟩ = some (.int .i64 mx)) :
    Calls Tryz.prog 108 #[.string ⟨x.toArray⟩, .string ⟨#[47, 47]⟩] w fun e w' => e = .returned (.bool (Wd.dbl x)) ∧ w' = w :=
  Tryz.strings_Contains ⟨x.toArray⟩ ⟨#[47, 47]⟩ mx w (by simp [ByteArray.size]; omega) hm
set_option maxHeartbeats 400000 in
theorem underVar_any (x : List UInt8) (w : World) :
    Calls Tryz.prog 111 #[.string ⟨x.toArray⟩] w fun e w' => e = .returned (.bool (Wd.under x)) ∧ w' = w := by
  go_enter Tryz.func111, Tryz.ntmps111
  go_wp2_with (go_at_call 122; refine (under_any x _).mono ?_; rintro e w' ⟨rfl, rfl⟩)
  go_ret
  exact ⟨rfl, rfl⟩

theorem ends_of {x : List UInt8} (h : 2 ≤ x.length) : ∃ c d, (⟨x.toArray⟩ : ByteArray)[0]'(by show 0 < x.length; omega) = c ∧ (⟨x.toArray⟩ : ByteArray)[x.length - 1]'(by show x.length - 1 < x.length; omega) = d ∧ (∀ f, Wd.headIs f x = f c) ∧ Wd.lastOf x = d := by
  refine ⟨_, _, rfl, rfl, ?_, ?_⟩
  · intro f
    cases x with
    | nil => simp at h
    | cons c l => rfl
  · have hne : x ≠ [] := by rintro rfl; simp at h
    rw [Wd.lastOf, List.getLastD_eq_getLast?, List.getLast?_eq_getElem?]
    have : x.length - 1 < x.length := by omega
    simp [this]; rfl

set_option maxHeartbeats 1000000 in
theorem isPath_any (x : List UInt8) (hx : x.length ≤ 2000) (mx : Int) (w : World) (hm : w.cell? ⟨0, 0, none⟩ = some (.int .i64 mx)) :
    Calls Tryz.prog 93 #[.string ⟨x.toArray⟩] w fun e w' => e = .returned (.bool (Wd.isPath x)) ∧ Below w.heap.size w w' := by
  have HM := hide hm; clear hm
  cases h : Wd.lenIn x 2 24
  · have e1 : Wd.isPath x = false := by simp [Wd.isPath, h]
    rw [e1]
    go_enter Tryz.func93, Tryz.ntmps93
    go_wp2_with (go_at_call 89; refine (wLen_any x 2 24 _).mono ?_; rintro e w' ⟨rfl, rfl⟩)
    go_ret
    exact ⟨rfl, Below.refl _ _⟩
  · have h2 : 2 ≤ x.length := by simp [Wd.lenIn] at h; omega
    have h2' : (1 : Int) ≤ x.length := by omega
    obtain ⟨c, d, hc, hd, hhead, hlast⟩ := ends_of h2
    have HH := hide hhead; have HL := hide hlast
    clear hhead hlast
    have hc' : (c.toNat : Int) = 47 ↔ c = 47 := by rw [← UInt8.toNat_inj]; show _ ↔ c.toNat = 47; omega
    have hd' : (d.toNat : Int) = 47 ↔ d = 47 := by rw [← UInt8.toNat_inj]; show _ ↔ d.toNat = 47; omega
    by_cases hc0 : (c.toNat : Int) = 47
    · by_cases hd0 : (d.toNat : Int) = 47
      · have e1 : Wd.isPath x = false := by simp [Wd.isPath, HL.out, hd'.1 hd0]
        rw [e1]
        have b1 : ((c.toNat : Int) == 47) = true := by simp [hc0]
        have b2 : ((d.toNat : Int) != 47) = false := by simp [hd0]
        clear hc' hd' hc0 hd0 e1
        go_enter Tryz.func93, Tryz.ntmps93
        go_wp2_with (go_at_call 89; refine (wLen_any x 2 24 _).mono ?_; rintro e w' ⟨rfl, rfl⟩)
        go_ret
        exact ⟨rfl, Below.refl _ _⟩
      · have b1 : ((c.toNat : Int) == 47) = true := by simp [hc0]
        have b2 : ((d.toNat : Int) != 47) = true := by simp [hd0]
        have e0 : Wd.isPath x = (!Wd.dbl x && Ver.allL Wd.paS x) := by
          have hb : (d != 47) = true := bne_iff_ne.2 fun e => hd0 (hd'.2 e)
          simp only [Wd.isPath, HL.out, HH.out, h, hc0, hb, Bool.true_and, beq_self_eq_true]
        rw [e0]
        clear hc' hd' hc0 hd0 e0
        cases hdb : Wd.dbl x
        · go_enter Tryz.func93, Tryz.ntmps93
          go_wp2_with (first
            | (go_at_call 89; refine (wLen_any x 2 24 _).mono ?_; rintro e w' ⟨rfl, rfl⟩)
            | (go_at_call 108; refine (dbl_any x hx mx _ HM.out).mono ?_; rintro e w' ⟨rfl, rfl⟩)
            | (go_at_call 55; refine (all_long _ _ enters_wPath wPath_any x hx _).mono ?_; rintro e w' ⟨rfl, hb⟩))
          go_ret
          exact ⟨ret_bool (by simp), hb⟩
        · go_enter Tryz.func93, Tryz.ntmps93
          go_wp2_with (first
            | (go_at_call 89; refine (wLen_any x 2 24 _).mono ?_; rintro e w' ⟨rfl, rfl⟩)
            | (go_at_call 108; refine (dbl_any x hx mx _ HM.out).mono ?_; rintro e w' ⟨rfl, rfl⟩))
          go_ret
          exact ⟨ret_bool (by simp), Below.refl _ _⟩
    · have e1 : Wd.isPath x = false := by simp [Wd.isPath, HH.out, hc0]
      rw [e1]
      have b1 : ((c.toNat : Int) == 47) = false := by simp [hc0]
      clear hc' hd' hc0 e1
      go_enter Tryz.func93, Tryz.ntmps93
      go_wp2_with (go_at_call 89; refine (wLen_any x 2 24 _).mono ?_; rintro e w' ⟨rfl, rfl⟩)
      go_ret
      exact ⟨rfl, Below.refl _ _⟩

set_option maxHeartbeats 400000 in
theorem isVar_any (x : List UInt8) (hx : x.length ≤ 2000) (mx : Int) (w : World) (hm : w.cell? ⟨0, 0, none⟩ = some (.int .i64 mx)) :
    Calls Tryz.prog 115 #[.string ⟨x.toArray⟩] w fun e w' => e = .returned (.bool (Wd.isVar x)) ∧ Below w.heap.size w w' := by
  have HM := hide hm; clear hm
  cases h : Wd.isPath x
  · have e1 : Wd.isVar x = false := by simp [Wd.isVar, h]
    rw [e1]
    go_enter Tryz.func115, Tryz.ntmps115
    go_wp2_with (go_at_call 93; refine (isPath_any x hx mx _ HM.out).mono ?_; rintro e w' ⟨rfl, hb⟩)
    go_ret
    exact ⟨rfl, hb⟩
  · have e1 : Wd.isVar x = Wd.under x := by simp [Wd.isVar, h]
    rw [e1]
    go_enter Tryz.func115, Tryz.ntmps115
    go_wp2_with (first
      | (go_at_call 93; refine (isPath_any x hx mx _ HM.out).mono ?_; rintro e w' ⟨rfl, hb⟩)
      | (go_at_call 111; refine (underVar_any x _).mono ?_; rintro e w' ⟨rfl, rfl⟩))
    go_ret
    exact ⟨rfl, hb⟩
end Go.Proofs.YtgdmgmklncmanaaGreatDoor
