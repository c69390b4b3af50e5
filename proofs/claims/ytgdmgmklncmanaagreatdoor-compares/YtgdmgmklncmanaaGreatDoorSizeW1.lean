/- The walk over a size that is one. -/
import Derived.Test.YtgdmgmklncmanaaGreatDoorCmdW1
import Derived.Test.YtgdmgmklncmanaaGreatDoorShelf2
import Derived.Shelf.Strings.SlTrimAscii
import Derived.BigQuiet
namespace Go.Proofs.YtgdmgmklncmanaaGreatDoor
open Go.RowKit

def tenD : List UInt8 := [48, 49, 50, 51, 52, 53, 54, 55, 56, 57]
theorem trimD_any (x : List UInt8) (hx : x.length ≤ 2000) (w : World) :
    Calls Tryz.prog 120 #[.string ⟨x.toArray⟩, .string ⟨#[48, 49, 50, 51, 52, 53, 54, 55, 56, 57]⟩] w fun e w' => e = .returned (.string ⟨(Lib.trimS x tenD).toArray⟩) ∧ Below w.heap.size w w' :=
  Any.strings_Trim_laid Tryz.lays160 (by kernel_rfl) ⟨x.toArray⟩ ⟨#[48, 49, 50, 51, 52, 53, 54, 55, 56, 57]⟩ w (by simp [ByteArray.size]; omega) (by decide) (ascii_of_all (by decide))
theorem atoi_any (x : List UInt8) (n : Int) (hl : x.length ≤ 4) (h : Lib.atoi x = some n) (w : World) :
    Calls Tryz.prog 121 #[.string ⟨x.toArray⟩] w fun e w' => e = .returned (.tuple #[.int .i64 n, .nilIface]) ∧ Below w.heap.size w w' := by
  refine (Tryz.strconv_Atoi ⟨x.toArray⟩ n (by simp [ByteArray.size]; omega) h w).mono ?_
  rintro e w' ⟨rfl, t, rfl⟩
  exact ⟨rfl, below_bytesWorld w _ t⟩

set_option maxHeartbeats 400000 in
theorem size_ok (x : List UInt8) (n : Int) (h1 : 1 ≤ x.length) (h4 : x.length ≤ 4) (hd : Wd.headIs (fun c => (c.toNat : Int) == 48) x = false) (ht : Lib.trimS x tenD = []) (ha : Lib.atoi x = some n) (w : World) :
    Calls Tryz.prog 110 #[.string ⟨x.toArray⟩] w fun e w' => e = .returned (.tuple #[.int .i64 n, .bool true]) ∧ Below w.heap.size w w' := by
  obtain ⟨c0, hc0, hhead⟩ : ∃ c0, (⟨x.toArray⟩ : ByteArray)[0]'(by show 0 < x.length; omega) = c0 ∧ ∀ f, Wd.headIs f x = f c0 := by
    cases x with
    | nil => simp at h1
    | cons c l => exact ⟨c, rfl, fun _ => rfl⟩
  rw [hhead] at hd
  have he : (x == []) = false := by cases x with
    | nil => simp at h1
    | cons c l => rfl
  have b4 : ¬ (4 : Int) < x.length := by omega
  have hp : (0 : Int) < x.length := by omega
  have HA := hide ha; have HT := hide ht
  clear ha ht hhead
  go_enter Tryz.func110, Tryz.ntmps110
  go_wp2_with (first
    | (go_at_call 120; refine (trimD_any x (by omega) _).mono ?_; rintro e w1 ⟨he1, hb1⟩; rw [HT.out] at he1; subst he1)
    | (go_at_call 121; refine (atoi_any x n h4 HA.out _).mono ?_; rintro e w2 ⟨rfl, hb2⟩))
  go_quiet (fail)
  go_wp2_with fail
  go_ret2
  exact ⟨rfl, below_drewN (hb1.trans (hb2.mono hb1.size)) _⟩
end Go.Proofs.YtgdmgmklncmanaaGreatDoor
