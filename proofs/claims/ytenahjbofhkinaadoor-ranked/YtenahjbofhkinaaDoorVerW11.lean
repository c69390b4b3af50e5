/- The walk over Ranked. -/
import Derived.Test.YtenahjbofhkinaaDoorVerW10
namespace Go.Proofs.YtenahjbofhkinaaDoor
open Go.RowKit

theorem cmp_res (x y : List UInt8) (r s : Int) (h : Ver.compare x y = (r, s)) (w : World) :
    Calls Tryd.prog 6 #[.string ⟨x.toArray⟩, .string ⟨y.toArray⟩] w fun e w' => e = .returned (.tuple #[.int .i64 r, .int .i64 s]) ∧ Below w.heap.size w w' := by
  have := compare_any x y w
  rw [h] at this
  exact this

def s3 (x : Nat) : List UInt8 := Ver.one x ++ [45, 49]
def s4 (x : Nat) : List UInt8 := Ver.one x ++ [45, 50]
def s5 (x : Nat) : List UInt8 := Ver.one x ++ [126, 97]
def s6 (x : Nat) : List UInt8 := Ver.one x ++ [97]
def s7 (x : Nat) : List UInt8 := 49 :: 58 :: Ver.one x
def s8 (x : Nat) : List UInt8 := 48 :: 58 :: Ver.two x

set_option maxRecDepth 100000 in
set_option maxHeartbeats 2000000 in
theorem ranked_any (n m : Int) (hn0 : -9223372036854775808 ≤ n) (hn1 : n ≤ 9223372036854775807) (hm0 : -9223372036854775808 ≤ m) (hm1 : m ≤ 9223372036854775807) (a b c : List UInt8) (w : World) :
    Calls Tryd.prog 3 #[.int .i64 n, .int .i64 m, .string ⟨a.toArray⟩, .string ⟨b.toArray⟩, .string ⟨c.toArray⟩] w fun e w' => e = .returned (.bool true) ∧ Below w.heap.size w w' := by
  obtain ⟨x, hx, hxe⟩ : ∃ x : Nat, x < 1000 ∧ pk n 1000 = x := ⟨(pk n 1000).toNat, by have := pk_lt n; omega, by have := pk_lt n; omega⟩
  obtain ⟨y, hy, hye⟩ : ∃ y : Nat, y < 1000 ∧ pk m 1000 = y := ⟨(pk m 1000).toNat, by have := pk_lt m; omega, by have := pk_lt m; omega⟩
  have l0 := @Ver.dg_len x
  have l1 := @Ver.dg_len y
  have l2 := Ver.len_one x
  have l3 := Ver.len_two y
  have e1 : (⟨#[49, 46]⟩ : ByteArray) ++ ⟨(Ver.dg x).toArray⟩ = ⟨(Ver.one x).toArray⟩ := list_append [49, 46] (Ver.dg x)
  have e2 : (⟨#[49, 46, 48]⟩ : ByteArray) ++ ⟨(Ver.dg y).toArray⟩ = ⟨(Ver.two y).toArray⟩ := list_append [49, 46, 48] (Ver.dg y)
  have e3 : (⟨(Ver.one x).toArray⟩ : ByteArray) ++ ⟨#[45, 49]⟩ = ⟨(s3 x).toArray⟩ := list_append (Ver.one x) [45, 49]
  have e4 : (⟨(Ver.one x).toArray⟩ : ByteArray) ++ ⟨#[45, 50]⟩ = ⟨(s4 x).toArray⟩ := list_append (Ver.one x) [45, 50]
  have e5 : (⟨(Ver.one x).toArray⟩ : ByteArray) ++ ⟨#[126, 97]⟩ = ⟨(s5 x).toArray⟩ := list_append (Ver.one x) [126, 97]
  have e6 : (⟨(Ver.one x).toArray⟩ : ByteArray) ++ ⟨#[97]⟩ = ⟨(s6 x).toArray⟩ := list_append (Ver.one x) [97]
  have e7 : (⟨#[49, 58]⟩ : ByteArray) ++ ⟨(Ver.one x).toArray⟩ = ⟨(s7 x).toArray⟩ := list_append [49, 58] (Ver.one x)
  have e8 : (⟨#[48, 58]⟩ : ByteArray) ++ ⟨(Ver.two y).toArray⟩ = ⟨(s8 y).toArray⟩ := list_append [48, 58] (Ver.two y)
  have HB := hide (Below.refl w.heap.size w)
  go_enter Tryd.func3, Tryd.ntmps3
  go_wp2_with fail
  refine (pick_any n hn0 hn1 _).mono ?_
  rw [hxe]; rintro e w0 ⟨rfl, rfl⟩
  go_wp2_with fail
  refine (pick_any m hm0 hm1 _).mono ?_
  rw [hye]; rintro e w0 ⟨rfl, rfl⟩
  clear hxe hye hn0 hn1 hm0 hm1
  have HX := hide hx
  have HY := hide hy
  clear hx hy
  obtain ⟨k, R1, hk⟩ : ∃ k : Int, Hid (Ver.compare (Ver.one x) (Ver.two y) = (k, 0)) ∧ ((k = -1 ∧ (x : Int) < y) ∨ (k = 0 ∧ ¬ (x : Int) < y ∧ ¬ (y : Int) < x) ∨ (k = 1 ∧ ¬ (x : Int) < y ∧ (y : Int) < x)) := by
    refine ⟨_, Ver.res_1 HX.out HY.out, ?_⟩
    simp only [Ver.cmpI]; (repeat' split) <;> omega
  rcases hk with ⟨rfl, h1⟩ | ⟨rfl, h1, h2⟩ | ⟨rfl, h1, h2⟩
  all_goals
    go_wp2_with fail
    refine (digits_any x HX.out _).mono ?_
    rintro e w' ⟨rfl, hb⟩
    replace HB := hide (HB.out.trans (hb.mono HB.out.size))
    clear hb
    go_wp2_with fail
    refine (digits_any y HY.out _).mono ?_
    rintro e w' ⟨rfl, hb⟩
    replace HB := hide (HB.out.trans (hb.mono HB.out.size))
    clear hb
    go_wp2_with fail
    refine (cmp_res _ _ _ _ R1.out _).mono ?_
    rintro e w' ⟨rfl, hb⟩
    replace HB := hide (HB.out.trans (hb.mono HB.out.size))
    clear hb
    go_wp2_with fail
    refine (cmp_res _ _ _ _ (Ver.res_2 HX.out) _).mono ?_
    rintro e w' ⟨rfl, hb⟩
    replace HB := hide (HB.out.trans (hb.mono HB.out.size))
    clear hb
    go_wp2_with fail
    refine (cmp_res _ _ _ _ (Ver.res_3 HX.out) _).mono ?_
    rintro e w' ⟨rfl, hb⟩
    replace HB := hide (HB.out.trans (hb.mono HB.out.size))
    clear hb
    go_wp2_with fail
    refine (cmp_res _ _ _ _ (Ver.res_4 HX.out) _).mono ?_
    rintro e w' ⟨rfl, hb⟩
    replace HB := hide (HB.out.trans (hb.mono HB.out.size))
    clear hb
    go_wp2_with fail
    refine (cmp_res _ _ _ _ (Ver.res_5 HX.out HY.out) _).mono ?_
    rintro e w' ⟨rfl, hb⟩
    replace HB := hide (HB.out.trans (hb.mono HB.out.size))
    clear hb
    go_wp2_with fail
    clear e1 e2 e3 e4 e5 e6 e7 e8 l0 l1 l2 l3
  all_goals
    obtain ⟨t, u, v, p, z, o, bk, q, sf, own, R6, R7, R8, R9, R10, hk⟩ := Ver.tail_cases a b c
    replace R6 := hide R6
    replace R7 := hide R7
    replace R8 := hide R8
    replace R9 := hide R9
    replace R10 := hide R10
    rcases hk with ⟨rfl, rfl⟩ | ⟨rfl, rfl, rfl | rfl | rfl⟩ | ⟨rfl, rfl, rfl, rfl, rfl, ⟨rfl, rfl⟩ | ⟨rfl, rfl, ⟨rfl, rfl⟩ | ⟨rfl, rfl⟩ | ⟨rfl, rfl⟩⟩ | ⟨rfl, rfl, rfl | ⟨rfl, rfl⟩ | ⟨rfl, rfl⟩⟩⟩
  all_goals
    refine (cmp_res _ _ _ _ R6.out _).mono ?_
    rintro e w' ⟨rfl, hb⟩
    replace HB := hide (HB.out.trans (hb.mono HB.out.size))
    clear hb
    go_wp2_with fail
    refine (cmp_res _ _ _ _ R7.out _).mono ?_
    rintro e w' ⟨rfl, hb⟩
    replace HB := hide (HB.out.trans (hb.mono HB.out.size))
    clear hb
    go_wp2_with fail
    refine (cmp_res _ _ _ _ R8.out _).mono ?_
    rintro e w' ⟨rfl, hb⟩
    replace HB := hide (HB.out.trans (hb.mono HB.out.size))
    clear hb
    go_wp2_with fail
    refine (cmp_res _ _ _ _ R9.out _).mono ?_
    rintro e w' ⟨rfl, hb⟩
    replace HB := hide (HB.out.trans (hb.mono HB.out.size))
    clear hb
    go_wp2_with fail
    refine (cmp_res _ _ _ _ R10.out _).mono ?_
    rintro e w' ⟨rfl, hb⟩
    replace HB := hide (HB.out.trans (hb.mono HB.out.size))
    clear hb
    go_wp2_with fail
    go_ret
    exact ⟨rfl, HB.out⟩
end Go.Proofs.YtenahjbofhkinaaDoor
