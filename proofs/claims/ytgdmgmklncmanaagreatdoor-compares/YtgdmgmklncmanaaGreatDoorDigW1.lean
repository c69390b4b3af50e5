/- The walks over the words' turns, of both ways to the digest. -/
import Derived.Test.YtgdmgmklncmanaaGreatDoorArcW1
import Derived.BigRegion
namespace Go.Proofs.YtgdmgmklncmanaaGreatDoor
open Go.RowKit

/-- A word turned to the right. -/
def rot (x : Int) (n : Nat) : Int := bits BinOp.or IntKind.u32 (x / 2 ^ n) (x * 2 ^ (32 - n) % 4294967296)

theorem rturn_any (x : Int) (n : Nat) (hn : 1 ≤ n) (hn' : n ≤ 31) (w : World) :
    Calls Tryz.prog 75 #[.int .u32 x, .int .i64 n] w fun e w' => e = .returned (.int .u32 (rot x n)) ∧ Below w.heap.size w w' := by
  go_enter Tryz.func75, Tryz.ntmps75
  go_wp2
  go_region
  all_goals go_wp2_with fail
  all_goals go_ret
  all_goals exact ⟨rfl, (Below.refl _ _).drew⟩
theorem bits_or_comm (k : IntKind) (a b : Int) : bits BinOp.or k a b = bits BinOp.or k b a := by
  simp only [bits]; rw [BitVec.or_comm]
theorem turn_count : ∀ n, 1 ≤ n → n < 32 → bits BinOp.and IntKind.u64 (IntKind.u64.wrap (-(n : Nat) : Int)) 31 = ((32 - n : Nat) : Int) := by
  have h : ∀ n : Fin 32, 1 ≤ n.val → bits BinOp.and IntKind.u64 (IntKind.u64.wrap (-(n.val : Int))) 31 = ((32 - n.val : Nat) : Int) := by decide
  exact fun n h0 h1 => h ⟨n, h1⟩ h0

theorem dturn_any (x : Int) (n : Nat) (hn : 1 ≤ n) (hn' : n ≤ 31) (w : World) :
    Calls Tryz.prog 154 #[.int .u32 x, .int .i64 n] w fun e w' => e = .returned (.int .u32 (rot x n)) ∧ w' = w := by
  have hs := turn_count n hn (by omega)
  obtain ⟨m, hm⟩ : ∃ m, 32 - n = m := ⟨_, rfl⟩
  have hm0 : 32 - m = n := by omega
  have hr : rot x n = bits BinOp.or IntKind.u32 (x * 2 ^ m % 4294967296) (x / 2 ^ (32 - m)) := by rw [rot, bits_or_comm, hm, hm0]
  rw [hm] at hs
  have HR := hide hr; clear hr
  have hm1 : m ≤ 31 := by omega
  have hm2 : 1 ≤ m := by omega
  clear hm hm0
  go_enter Tryz.func154, Tryz.ntmps154
  go_wp2
  all_goals go_ret
  all_goals exact ⟨by rw [HR.out]; rfl, rfl⟩
/-- The same at a count that is written out. -/
theorem dturn_at (x k : Int) (hk : 1 ≤ k) (hk' : k ≤ 31) (w : World) :
    Calls Tryz.prog 154 #[.int .u32 x, .int .i64 k] w fun e w' => e = .returned (.int .u32 (rot x k.toNat)) ∧ w' = w := by
  obtain ⟨n, rfl⟩ : ∃ n : Nat, k = n := ⟨k.toNat, by omega⟩
  exact dturn_any x n (by omega) (by omega) w
theorem rturn_at (x k : Int) (hk : 1 ≤ k) (hk' : k ≤ 31) (w : World) :
    Calls Tryz.prog 75 #[.int .u32 x, .int .i64 k] w fun e w' => e = .returned (.int .u32 (rot x k.toNat)) ∧ Below w.heap.size w w' := by
  obtain ⟨n, rfl⟩ : ∃ n : Nat, k = n := ⟨k.toNat, by omega⟩
  exact rturn_any x n (by omega) (by omega) w

/-- The four mixtures of turns. -/
def xor3 (a b c : Int) : Int := bits BinOp.xor IntKind.u32 (bits BinOp.xor IntKind.u32 a b) c
def sB0 (x : Int) : Int := xor3 (rot x 2) (rot x 13) (rot x 22)
def sB1 (x : Int) : Int := xor3 (rot x 6) (rot x 11) (rot x 25)
def sS0 (x : Int) : Int := xor3 (rot x 7) (rot x 18) (x / 8)
def sS1 (x : Int) : Int := xor3 (rot x 17) (rot x 19) (x / 1024)

theorem bigSigma0_any (x : Int) (w : World) :
    Calls Tryz.prog 147 #[.int .u32 x] w fun e w' => e = .returned (.int .u32 (sB0 x)) ∧ w' = w := by
  go_enter Tryz.func147, Tryz.ntmps147
  go_wp2_with (go_at_call 154; refine (dturn_at _ _ (by decide) (by decide) _).mono ?_; rintro e w' ⟨rfl, rfl⟩)
  all_goals go_ret
  all_goals exact ⟨rfl, rfl⟩

theorem bigSigma1_any (x : Int) (w : World) :
    Calls Tryz.prog 146 #[.int .u32 x] w fun e w' => e = .returned (.int .u32 (sB1 x)) ∧ w' = w := by
  go_enter Tryz.func146, Tryz.ntmps146
  go_wp2_with (go_at_call 154; refine (dturn_at _ _ (by decide) (by decide) _).mono ?_; rintro e w' ⟨rfl, rfl⟩)
  all_goals go_ret
  all_goals exact ⟨rfl, rfl⟩

theorem smallSigma0_any (x : Int) (w : World) :
    Calls Tryz.prog 149 #[.int .u32 x] w fun e w' => e = .returned (.int .u32 (sS0 x)) ∧ w' = w := by
  go_enter Tryz.func149, Tryz.ntmps149
  go_wp2_with (go_at_call 154; refine (dturn_at _ _ (by decide) (by decide) _).mono ?_; rintro e w' ⟨rfl, rfl⟩)
  all_goals go_ret
  all_goals exact ⟨rfl, rfl⟩

theorem smallSigma1_any (x : Int) (w : World) :
    Calls Tryz.prog 148 #[.int .u32 x] w fun e w' => e = .returned (.int .u32 (sS1 x)) ∧ w' = w := by
  go_enter Tryz.func148, Tryz.ntmps148
  go_wp2_with (go_at_call 154; refine (dturn_at _ _ (by decide) (by decide) _).mono ?_; rintro e w' ⟨rfl, rfl⟩)
  all_goals go_ret
  all_goals exact ⟨rfl, rfl⟩
end Go.Proofs.YtgdmgmklncmanaaGreatDoor
