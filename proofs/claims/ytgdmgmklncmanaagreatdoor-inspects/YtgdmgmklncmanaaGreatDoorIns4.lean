/- Of Ins: VerW9, RefW1, WordsMath, WordsW1, RefX1. -/
import Derived.Test.YtgdmgmklncmanaaGreatDoorIns3
import Derived.Test.YtgdmgmklncmanaaGreatDoorIns1
import Derived.Lib.Strings
import Derived.Lib.IndexMore
/- The walks over version.Parse whole and pack.Compare. -/
namespace Go.Proofs.YtgdmgmklncmanaaGreatDoor
open Go.RowKit

theorem fine_okV {x : List UInt8} (h0 : 1 ≤ x.length) (h1 : x.length ≤ 24) : Ver.fine x = okV (Ver.split3 x).e (Ver.split3 x).m (Ver.split3 x).r := by
  simp [Ver.fine, okV, h0, h1]

theorem parse_split (x : List UInt8) (h0 : 1 ≤ x.length) (h1 : x.length ≤ 24) (w : World) :
    Calls Tryz.prog 13 #[.string ⟨x.toArray⟩] w (Parsed (Ver.split3 x).e (Ver.split3 x).m (Ver.split3 x).r w) := by
  simp only [Ver.split3]
  rcases Ver.cutC_cases x with ⟨a1, a2⟩ | ⟨j, aj, a1, a2⟩
  · rw [a2]
    rcases Ver.cutM_cases x with ⟨b1, b2⟩ | ⟨k, bk, b1, b2⟩
    · rw [b2]; exact parse_n_n x h0 h1 a1 b1 w
    · rw [b2]; exact parse_n_d x h0 h1 a1 k bk b1 w
  · rw [a2]
    have hlE : (x.take j).length ≤ 24 := by rw [List.length_take]; omega
    have hlm : (x.drop (j + 1)).length ≤ 24 := by rw [List.length_drop]; omega
    rcases Ver.cutM_cases (x.drop (j + 1)) with ⟨b1, b2⟩ | ⟨k, bk, b1, b2⟩
    · rw [b2]; exact parse_c_n x h0 h1 _ _ j aj a1 rfl rfl hlE hlm b1 w
    · rw [b2]; exact parse_c_d x h0 h1 _ _ j aj a1 rfl rfl hlE hlm k bk b1 w

theorem parse_ok (x : List UInt8) (h : Ver.fine x = true) (w : World) :
    Calls Tryz.prog 13 #[.string ⟨x.toArray⟩] w fun e w' =>
      e = .returned (.tuple #[.agg #[.string ⟨(Ver.split3 x).e.toArray⟩, .string ⟨(Ver.split3 x).m.toArray⟩, .string ⟨(Ver.split3 x).r.toArray⟩], .bool true]) ∧ Below w.heap.size w w' := by
  have h0 : 1 ≤ x.length ∧ x.length ≤ 24 := by simp [Ver.fine] at h; exact ⟨by omega, by omega⟩
  have hv := (fine_okV h0.1 h0.2).symm.trans h
  refine (parse_split x h0.1 h0.2 w).mono fun e w' he => ?_
  obtain ⟨e1, hb⟩ := he
  refine ⟨?_, hb⟩
  rw [e1, hv]; simp [pv, hv]
theorem parse_bad (x : List UInt8) (h : Ver.fine x = false) (w : World) :
    Calls Tryz.prog 13 #[.string ⟨x.toArray⟩] w fun e w' =>
      e = .returned (.tuple #[.agg #[.string ⟨#[]⟩, .string ⟨#[]⟩, .string ⟨#[]⟩], .bool false]) ∧ Below w.heap.size w w' := by
  by_cases h0 : 1 ≤ x.length ∧ x.length ≤ 24
  · have hv := (fine_okV h0.1 h0.2).symm.trans h
    refine (parse_split x h0.1 h0.2 w).mono fun e w' he => ?_
    obtain ⟨e1, hb⟩ := he
    refine ⟨?_, hb⟩
    rw [e1, hv]; simp [pv, hv, zv]
  · exact parse_short ⟨x.toArray⟩ (by show x.length = 0 ∨ 24 < x.length; omega) w

theorem split3_len {x : List UInt8} (h : Ver.fine x = true) : (Ver.split3 x).e.length ≤ 24 ∧ (Ver.split3 x).m.length ≤ 24 ∧ (Ver.split3 x).r.length ≤ 24 := by
  have h0 : 1 ≤ x.length ∧ x.length ≤ 24 := by simp [Ver.fine] at h; exact ⟨by omega, by omega⟩
  have := Ver.cutC_len x
  have := Ver.cutC_len1 x h0.1
  have := Ver.cutM_len1 (Ver.cutC x).2
  have := Ver.cutM_len2 (Ver.cutC x).2 (by omega)
  simp only [Ver.split3]; omega

theorem compare_ok {x y : List UInt8} (hx : Ver.fine x = true) (hy : Ver.fine y = true) : Ver.compare x y = (Ver.cmpV (Ver.split3 x) (Ver.split3 y), 0) := by simp [Ver.compare, hx, hy]
theorem compare_bad1 {x y : List UInt8} (hx : Ver.fine x = false) : Ver.compare x y = (0, 2) := by simp [Ver.compare, hx]
theorem compare_bad2 {x y : List UInt8} (hy : Ver.fine y = false) : Ver.compare x y = (0, 2) := by simp [Ver.compare, hy]

theorem below_next {w w1 w2 : World} {o o' : Obj} (h1 : Below w.heap.size w w1) (h2 : Below (w1.alloc o).heap.size (w1.alloc o) w2) : Below w.heap.size w (w2.alloc o') := by
  have h := (h1.alloc h1.size o).trans (h2.mono (Nat.le_trans h1.size (by simp)))
  exact h.alloc h.size o'

set_option maxHeartbeats 1000000 in
theorem compare_any (x y : List UInt8) (w : World) :
    Calls Tryz.prog 6 #[.string ⟨x.toArray⟩, .string ⟨y.toArray⟩] w fun e w' =>
      e = .returned (.tuple #[.int .i64 (Ver.compare x y).1, .int .i64 (Ver.compare x y).2]) ∧ Below w.heap.size w w' := by
  cases hx : Ver.fine x
  · cases hy : Ver.fine y
    · rw [compare_bad1 hx]
      go_enter Tryz.func6, Tryz.ntmps6
      go_wp2_with fail
      refine (parse_bad x hx _).mono ?_
      rintro e w1 ⟨rfl, hb1⟩
      have HB1 := hide hb1; clear hb1
      go_wp2_with fail
      refine (parse_bad y hy _).mono ?_
      rintro e w2 ⟨rfl, hb2⟩
      have HB2 := hide hb2; clear hb2
      go_wp2_with fail
      go_ret2
      exact ⟨rfl, below_next HB1.out HB2.out⟩
    · rw [compare_bad1 hx]
      go_enter Tryz.func6, Tryz.ntmps6
      go_wp2_with fail
      refine (parse_bad x hx _).mono ?_
      rintro e w1 ⟨rfl, hb1⟩
      have HB1 := hide hb1; clear hb1
      go_wp2_with fail
      refine (parse_ok y hy _).mono ?_
      rintro e w2 ⟨rfl, hb2⟩
      have HB2 := hide hb2; clear hb2
      go_wp2_with fail
      go_ret2
      exact ⟨rfl, below_next HB1.out HB2.out⟩
  · cases hy : Ver.fine y
    · rw [compare_bad2 hy]
      go_enter Tryz.func6, Tryz.ntmps6
      go_wp2_with fail
      refine (parse_ok x hx _).mono ?_
      rintro e w1 ⟨rfl, hb1⟩
      have HB1 := hide hb1; clear hb1
      go_wp2_with fail
      refine (parse_bad y hy _).mono ?_
      rintro e w2 ⟨rfl, hb2⟩
      have HB2 := hide hb2; clear hb2
      go_wp2_with fail
      go_ret2
      exact ⟨rfl, below_next HB1.out HB2.out⟩
    · rw [compare_ok hx hy]
      obtain ⟨l1, l2, l3⟩ := split3_len hx
      obtain ⟨l4, l5, l6⟩ := split3_len hy
      go_enter Tryz.func6, Tryz.ntmps6
      go_wp2_with fail
      refine (parse_ok x hx _).mono ?_
      rintro e w1 ⟨rfl, hb1⟩
      have HB1 := hide hb1; clear hb1
      go_wp2_with fail
      refine (parse_ok y hy _).mono ?_
      rintro e w2 ⟨rfl, hb2⟩
      obtain ⟨hc2, hf2⟩ := bcell hb2
      have hz2 : w1.heap.size < w2.heap.size := by have := hb2.size; simp at this; omega
      have HB2 := hide hb2; clear hb2
      go_wp2_with fail
      refine (vcmp_any _ _ _ _ _ _ l1 l2 l3 l4 l5 l6 _).mono ?_
      rintro e w3 ⟨rfl, hb3⟩
      have HB3 := hide hb3; clear hb3
      go_wp2_with fail
      go_ret2
      exact ⟨rfl, (below_next HB1.out HB2.out).trans (HB3.out.mono (below_next HB1.out HB2.out).size)⟩
end Go.Proofs.YtgdmgmklncmanaaGreatDoor
/- The walks over the document's own answer on versions: its leaves. -/
namespace Go.Proofs.YtgdmgmklncmanaaGreatDoor
open Go.RowKit

set_option maxHeartbeats 400000 in
theorem rdigit_any (c : UInt8) (w : World) :
    Calls Tryz.prog 35 #[.int .u8 c.toNat] w fun e w' => e = .returned (.bool (Ver.isD c)) ∧ w' = w := by
  go_enter Tryz.func35, Tryz.ntmps35
  go_wp2
  all_goals (go_ret; exact ⟨ret_bool (by simp [Ver.isD]; try omega), rfl⟩)
set_option maxHeartbeats 400000 in
theorem rletter_any (c : UInt8) (w : World) :
    Calls Tryz.prog 65 #[.int .u8 c.toNat] w fun e w' => e = .returned (.bool (Ver.isL c)) ∧ w' = w := by
  go_enter Tryz.func65, Tryz.ntmps65
  go_wp2
  all_goals (go_ret; exact ⟨ret_bool (by simp [Ver.isL, *]; try omega), rfl⟩)
set_option maxHeartbeats 400000 in
theorem rless_any (x y : Int) (w : World) :
    Calls Tryz.prog 16 #[.int .i64 x, .int .i64 y] w fun e w' => e = .returned (.int .i64 (Ver.cmpI x y)) ∧ w' = w := by
  by_cases h1 : x < y
  · have e1 : Ver.cmpI x y = -1 := by simp [Ver.cmpI, h1]
    rw [e1]
    go_enter Tryz.func16, Tryz.ntmps16
    go_wp2
    go_ret
    exact ⟨rfl, rfl⟩
  · by_cases h2 : y < x
    · have e1 : Ver.cmpI x y = 1 := by simp [Ver.cmpI, h1, h2]
      rw [e1]
      go_enter Tryz.func16, Tryz.ntmps16
      go_wp2
      go_ret
      exact ⟨rfl, rfl⟩
    · have e1 : Ver.cmpI x y = 0 := by simp [Ver.cmpI, h1, h2]
      rw [e1]
      go_enter Tryz.func16, Tryz.ntmps16
      go_wp2
      go_ret
      exact ⟨rfl, rfl⟩

/-- The rank of a sign, 0 standing for the row's end. -/
def rkn (n : Int) : Int := if n = 126 then -1 else if n = 0 then 0 else if (97 ≤ n ∧ n ≤ 122) ∨ (65 ≤ n ∧ n ≤ 90) then n else 256 + n
theorem rkn_rkc {c : UInt8} (h : (c.toNat : Int) ≠ 0) : rkn c.toNat = Ver.rkc c := by
  unfold rkn Ver.rkc Ver.isL
  by_cases h1 : (c.toNat : Int) = 126
  · simp [h1]
  · simp only [h1, h, if_false]
    by_cases h2 : (97 ≤ (c.toNat : Int) ∧ (c.toNat : Int) ≤ 122) ∨ (65 ≤ (c.toNat : Int) ∧ (c.toNat : Int) ≤ 90)
    · rw [if_pos h2, if_pos (by simpa using h2)]
    · rw [if_neg h2, if_neg (by simpa using h2)]
theorem rkn_1 {c : UInt8} (h : ((c.toNat : Int) == 126) = true) : -1 = rkn c.toNat := by simp at h; simp [rkn, h]
theorem rkn_2 {c : UInt8} (_ : ((c.toNat : Int) == 126) = false) (h2 : ((c.toNat : Int) == 0) = true) : 0 = rkn c.toNat := by
  simp only [beq_iff_eq] at h2; rw [h2]; rfl
theorem rkn_3 {c : UInt8} (h : ((c.toNat : Int) == 126) = false) (h2 : ((c.toNat : Int) == 0) = false) (h3 : Ver.isL c = true) : (c.toNat : Int) = rkn c.toNat := by
  simp only [beq_eq_false_iff_ne] at h h2
  simp only [Ver.isL, Bool.or_eq_true, Bool.and_eq_true, decide_eq_true_eq] at h3
  simp only [rkn, h, h2, h3, if_true, if_false]
theorem rkn_4 {c : UInt8} (h : ((c.toNat : Int) == 126) = false) (h2 : ((c.toNat : Int) == 0) = false) (h3 : Ver.isL c = false) : 256 + (c.toNat : Int) = rkn c.toNat := by
  simp only [beq_eq_false_iff_ne] at h h2
  have h3' : ¬ ((97 ≤ (c.toNat : Int) ∧ (c.toNat : Int) ≤ 122) ∨ (65 ≤ (c.toNat : Int) ∧ (c.toNat : Int) ≤ 90)) := by
    intro hh; have : Ver.isL c = true := by simp only [Ver.isL, Bool.or_eq_true, Bool.and_eq_true, decide_eq_true_eq]; exact hh
    rw [this] at h3; cases h3
  simp only [rkn, h, h2, h3', if_false]

set_option maxHeartbeats 400000 in
theorem rrank_any (c : UInt8) (w : World) :
    Calls Tryz.prog 38 #[.int .u8 c.toNat] w fun e w' => e = .returned (.int .i64 (rkn c.toNat)) ∧ w' = w := by
  have hb : c.toNat < 256 := c.toNat_lt
  go_enter Tryz.func38, Tryz.ntmps38
  go_wp2_with (go_at_call 65; refine (rletter_any c _).mono ?_; rintro e w' ⟨rfl, rfl⟩)
  all_goals (go_ret; exact ⟨ret_int (by first | exact rkn_1 ‹_› | exact rkn_2 ‹_› ‹_› | exact rkn_3 ‹_› ‹_› ‹_› | exact rkn_4 ‹_› ‹_› ‹_›), rfl⟩)

/-- A text's sign, 0 behind its end. -/
def atn (x : List UInt8) (i : Nat) : UInt8 := x.getD i 0
set_option maxHeartbeats 400000 in
theorem rat_any (x : List UInt8) (i : Nat) (w : World) :
    Calls Tryz.prog 39 #[.string ⟨x.toArray⟩, .int .i64 i] w fun e w' => e = .returned (.int .u8 (atn x i).toNat) ∧ w' = w := by
  by_cases h : i < x.length
  · have e1 : atn x i = x[i] := by simp [atn, List.getD, h]
    rw [e1]
    go_enter Tryz.func39, Tryz.ntmps39
    go_wp2
    go_ret
    exact ⟨rfl, rfl⟩
  · have e1 : atn x i = 0 := by simp [atn, List.getD, h]
    rw [e1]
    go_enter Tryz.func39, Tryz.ntmps39
    go_wp2
    go_ret
    exact ⟨rfl, rfl⟩
end Go.Proofs.YtgdmgmklncmanaaGreatDoor
/- What a name, a path and a word are. Plain mathematics. -/
namespace Go.Proofs.YtgdmgmklncmanaaGreatDoor
namespace Wd
open Ver

def low (c : UInt8) : Bool := decide (97 ≤ (c.toNat : Int)) && decide ((c.toNat : Int) ≤ 122)
def nmS (c : UInt8) : Bool := low c || (decide (48 ≤ (c.toNat : Int)) && decide ((c.toNat : Int) ≤ 57)) || (c.toNat : Int) == 45
def paS (c : UInt8) : Bool := nmS c || (c.toNat : Int) == 46 || (c.toNat : Int) == 47
def woS (c : UInt8) : Bool := decide (33 ≤ (c.toNat : Int)) && decide ((c.toNat : Int) ≤ 126)
def lenIn (x : List UInt8) (a b : Nat) : Bool := decide (a ≤ x.length) && decide (x.length ≤ b)
def headIs (f : UInt8 → Bool) : List UInt8 → Bool
  | [] => false
  | c :: _ => f c
def isName (x : List UInt8) : Bool := lenIn x 1 12 && headIs low x && allL nmS x
def isWord (x : List UInt8) : Bool := lenIn x 1 16 && allL woS x
def under (x : List UInt8) : Bool := Lib.hasPrefix x [47, 118, 97, 114, 47]
def dbl (x : List UInt8) : Bool := Lib.contains x [47, 47]
def lastOf (x : List UInt8) : UInt8 := x.getLastD 0
def isPath (x : List UInt8) : Bool := lenIn x 2 24 && headIs (fun c => (c.toNat : Int) == 47) x && (lastOf x != 47) && !dbl x && allL paS x
def isVar (x : List UInt8) : Bool := isPath x && under x
end Wd
end Go.Proofs.YtgdmgmklncmanaaGreatDoor
/- The walks over package words. -/
namespace Go.Proofs.YtgdmgmklncmanaaGreatDoor
open Go.RowKit

set_option maxHeartbeats 400000 in
theorem wLetter_any (c : UInt8) (w : World) :
    Calls Tryz.prog 90 #[.int .u8 c.toNat] w fun e w' => e = .returned (.bool (Wd.low c)) ∧ w' = w := by
  go_enter Tryz.func90, Tryz.ntmps90
  go_wp2
  all_goals (go_ret; exact ⟨ret_bool (by simp [Wd.low]; try omega), rfl⟩)
set_option maxHeartbeats 400000 in
theorem wName_any (c : UInt8) (w : World) :
    Calls Tryz.prog 91 #[.int .u8 c.toNat] w fun e w' => e = .returned (.bool (Wd.nmS c)) ∧ w' = w := by
  go_enter Tryz.func91, Tryz.ntmps91
  go_wp2_with (go_at_call 90; refine (wLetter_any c _).mono ?_; rintro e w' ⟨rfl, rfl⟩)
  all_goals (go_ret; exact ⟨ret_bool (by simp [Wd.nmS, *]; try omega), rfl⟩)
set_option maxHeartbeats 400000 in
theorem wPath_any (c : UInt8) (w : World) :
    Calls Tryz.prog 109 #[.int .u8 c.toNat] w fun e w' => e = .returned (.bool (Wd.paS c)) ∧ w' = w := by
  go_enter Tryz.func109, Tryz.ntmps109
  go_wp2_with (go_at_call 91; refine (wName_any c _).mono ?_; rintro e w' ⟨rfl, rfl⟩)
  all_goals (go_ret; exact ⟨ret_bool (by simp [Wd.paS, *]), rfl⟩)
set_option maxHeartbeats 400000 in
theorem wWord_any (c : UInt8) (w : World) :
    Calls Tryz.prog 139 #[.int .u8 c.toNat] w fun e w' => e = .returned (.bool (Wd.woS c)) ∧ w' = w := by
  go_enter Tryz.func139, Tryz.ntmps139
  go_wp2
  all_goals (go_ret; exact ⟨ret_bool (by simp [Wd.woS]; try omega), rfl⟩)
set_option maxHeartbeats 400000 in
theorem wLen_any (x : List UInt8) (a b : Nat) (w : World) :
    Calls Tryz.prog 89 #[.string ⟨x.toArray⟩, .int .i64 a, .int .i64 b] w fun e w' => e = .returned (.bool (Wd.lenIn x a b)) ∧ w' = w := by
  go_enter Tryz.func89, Tryz.ntmps89
  go_wp2
  all_goals (go_ret; exact ⟨ret_bool (by simp [Wd.lenIn]; try omega), rfl⟩)

theorem enters_wName (args : Array Value) (w : World) : (callFunc 91 args).run Tryz.prog w = .ok (.enter 91 args) w :=
  enters Tryz.func91 (by kernel_rfl) rfl args w
theorem enters_wPath (args : Array Value) (w : World) : (callFunc 109 args).run Tryz.prog w = .ok (.enter 109 args) w :=
  enters Tryz.func109 (by kernel_rfl) rfl args w
theorem enters_wWord (args : Array Value) (w : World) : (callFunc 139 args).run Tryz.prog w = .ok (.enter 139 args) w :=
  enters Tryz.func139 (by kernel_rfl) rfl args w
theorem all_long (g : Nat) (f : UInt8 → Bool) (he : ∀ args w, (callFunc g args).run Tryz.prog w = .ok (.enter g args) w)
    (hg : ∀ (c : UInt8) (w : World), Calls Tryz.prog g #[.int .u8 c.toNat] w fun e w' => e = .returned (.bool (f c)) ∧ w' = w)
    (x : List UInt8) (hx : x.length ≤ 2000) (w : World) :
    Calls Tryz.prog 55 #[.string ⟨x.toArray⟩, .func (.func g) #[] #[]] w fun e w' => e = .returned (.bool (Ver.allL f x)) ∧ Below w.heap.size w w' :=
  all_any g f he hg ⟨x.toArray⟩ (by simp [ByteArray.size]; omega) w

set_option maxHeartbeats 400000 in
theorem isWord_any (x : List UInt8) (hx : x.length ≤ 2000) (w : World) :
    Calls Tryz.prog 126 #[.string ⟨x.toArray⟩] w fun e w' => e = .returned (.bool (Wd.isWord x)) ∧ Below w.heap.size w w' := by
  cases h : Wd.lenIn x 1 16
  · have e1 : Wd.isWord x = false := by simp [Wd.isWord, h]
    rw [e1]
    go_enter Tryz.func126, Tryz.ntmps126
    go_wp2_with (go_at_call 89; refine (wLen_any x 1 16 _).mono ?_; rintro e w' ⟨rfl, rfl⟩)
    go_ret
    exact ⟨rfl, Below.refl _ _⟩
  · have e1 : Wd.isWord x = Ver.allL Wd.woS x := by simp [Wd.isWord, h]
    rw [e1]
    go_enter Tryz.func126, Tryz.ntmps126
    go_wp2_with (first
      | (go_at_call 89; refine (wLen_any x 1 16 _).mono ?_; rintro e w' ⟨rfl, rfl⟩)
      | (go_at_call 55; refine (all_long _ _ enters_wWord wWord_any x hx _).mono ?_; rintro e w' ⟨rfl, hb⟩))
    go_ret
    exact ⟨rfl, hb⟩

set_option maxHeartbeats 400000 in
theorem isName_any (x : List UInt8) (hx : x.length ≤ 2000) (w : World) :
    Calls Tryz.prog 68 #[.string ⟨x.toArray⟩] w fun e w' => e = .returned (.bool (Wd.isName x)) ∧ Below w.heap.size w w' := by
  cases h : Wd.lenIn x 1 12
  · have e1 : Wd.isName x = false := by simp [Wd.isName, h]
    rw [e1]
    go_enter Tryz.func68, Tryz.ntmps68
    go_wp2_with (go_at_call 89; refine (wLen_any x 1 12 _).mono ?_; rintro e w' ⟨rfl, rfl⟩)
    go_ret
    exact ⟨rfl, Below.refl _ _⟩
  · have hpos : 0 < x.length := by simp [Wd.lenIn] at h; omega
    obtain ⟨c, hc, hcx⟩ : ∃ c, (⟨x.toArray⟩ : ByteArray)[0]'hpos = c ∧ Wd.headIs Wd.low x = Wd.low c := by
      cases x with
      | nil => simp at hpos
      | cons c l => exact ⟨c, rfl, rfl⟩
    have HCX := hide hcx; clear hcx
    cases hl : Wd.low c
    · have e1 : Wd.isName x = false := by simp [Wd.isName, HCX.out, hl]
      rw [e1]
      go_enter Tryz.func68, Tryz.ntmps68
      go_wp2_with (first
        | (go_at_call 89; refine (wLen_any x 1 12 _).mono ?_; rintro e w' ⟨rfl, rfl⟩)
        | (go_at_call 90; refine (wLetter_any c _).mono ?_; rintro e w' ⟨rfl, rfl⟩))
      go_ret
      exact ⟨rfl, Below.refl _ _⟩
    · have e1 : Wd.isName x = Ver.allL Wd.nmS x := by simp [Wd.isName, HCX.out, hl, h]
      rw [e1]
      go_enter Tryz.func68, Tryz.ntmps68
      go_wp2_with (first
        | (go_at_call 89; refine (wLen_any x 1 12 _).mono ?_; rintro e w' ⟨rfl, rfl⟩)
        | (go_at_call 90; refine (wLetter_any c _).mono ?_; rintro e w' ⟨rfl, rfl⟩)
        | (go_at_call 55; refine (all_long _ _ enters_wName wName_any x hx _).mono ?_; rintro e w' ⟨rfl, hb⟩))
      go_ret
      exact ⟨rfl, hb⟩
theorem under_any (x : List UInt8) (w : World) :
    Calls Tryz.prog 122 #[.string ⟨x.toArray⟩, .string ⟨#[47, 118, 97, 114, 47]⟩] w fun e w' => e = .returned (.bool (Wd.under x)) ∧ w' = w :=
  Tryz.strings_HasPrefix ⟨x.toArray⟩ ⟨#[47, 118, 97, 114, 47]⟩ w
theorem dbl_any (x : List UInt8) (hx : x.length ≤ 2000) (mx : Int) (w : World) (hm : w.cell? ⟨0, 0, none⟩ = some (.int .i64 mx)) :
    Calls Tryz.prog 108 #[.string ⟨x.toArray⟩, .string ⟨#[47, 47]⟩] w fun e w' => e = .returned (.bool (Wd.dbl x)) ∧ w' = w :=
  Tryz.strings_Contains ⟨x.toArray⟩ ⟨#[47, 47]⟩ mx w (by simp [ByteArray.size]; omega) hm
set_option maxHeartbeats 400000 in
theorem underVar_any (x : List UInt8) (w : World) :
    Calls Tryz.prog 111 #[.string ⟨x.toArray⟩] w fun e w' => e = .returned (.bool (Wd.under x)) ∧ w' = w := by
  go_enter Tryz.func111, Tryz.ntmps111
  go_wp2_with (go_at_call 122; refine (under_any x _).mono ?_; rintro e w' ⟨rfl, rfl⟩)
  go_ret
  exact ⟨rfl, rfl⟩

theorem ends_of {x : List UInt8} (h : 2 ≤ x.length) : ∃ c d, (⟨x.toArray⟩ : ByteArray)[0]'(by show 0 < x.length; omega) = c ∧ (⟨x.toArray⟩ : ByteArray)[x.length - 1]'(by show x.length - 1 < x.length; omega) = d ∧ (∀ f, Wd.headIs f x = f c) ∧ Wd.lastOf x = d := by
  refine ⟨_, _, rfl, rfl, ?_, ?_⟩
  · intro f
    cases x with
    | nil => simp at h
    | cons c l => rfl
  · have hne : x ≠ [] := by rintro rfl; simp at h
    rw [Wd.lastOf, List.getLastD_eq_getLast?, List.getLast?_eq_getElem?]
    have : x.length - 1 < x.length := by omega
    simp [this]; rfl

set_option maxHeartbeats 1000000 in
theorem isPath_any (x : List UInt8) (hx : x.length ≤ 2000) (mx : Int) (w : World) (hm : w.cell? ⟨0, 0, none⟩ = some (.int .i64 mx)) :
    Calls Tryz.prog 93 #[.string ⟨x.toArray⟩] w fun e w' => e = .returned (.bool (Wd.isPath x)) ∧ Below w.heap.size w w' := by
  have HM := hide hm; clear hm
  cases h : Wd.lenIn x 2 24
  · have e1 : Wd.isPath x = false := by simp [Wd.isPath, h]
    rw [e1]
    go_enter Tryz.func93, Tryz.ntmps93
    go_wp2_with (go_at_call 89; refine (wLen_any x 2 24 _).mono ?_; rintro e w' ⟨rfl, rfl⟩)
    go_ret
    exact ⟨rfl, Below.refl _ _⟩
  · have h2 : 2 ≤ x.length := by simp [Wd.lenIn] at h; omega
    have h2' : (1 : Int) ≤ x.length := by omega
    obtain ⟨c, d, hc, hd, hhead, hlast⟩ := ends_of h2
    have HH := hide hhead; have HL := hide hlast
    clear hhead hlast
    have hc' : (c.toNat : Int) = 47 ↔ c = 47 := by rw [← UInt8.toNat_inj]; show _ ↔ c.toNat = 47; omega
    have hd' : (d.toNat : Int) = 47 ↔ d = 47 := by rw [← UInt8.toNat_inj]; show _ ↔ d.toNat = 47; omega
    by_cases hc0 : (c.toNat : Int) = 47
    · by_cases hd0 : (d.toNat : Int) = 47
      · have e1 : Wd.isPath x = false := by simp [Wd.isPath, HL.out, hd'.1 hd0]
        rw [e1]
        have b1 : ((c.toNat : Int) == 47) = true := by simp [hc0]
        have b2 : ((d.toNat : Int) != 47) = false := by simp [hd0]
        clear hc' hd' hc0 hd0 e1
        go_enter Tryz.func93, Tryz.ntmps93
        go_wp2_with (go_at_call 89; refine (wLen_any x 2 24 _).mono ?_; rintro e w' ⟨rfl, rfl⟩)
        go_ret
        exact ⟨rfl, Below.refl _ _⟩
      · have b1 : ((c.toNat : Int) == 47) = true := by simp [hc0]
        have b2 : ((d.toNat : Int) != 47) = true := by simp [hd0]
        have e0 : Wd.isPath x = (!Wd.dbl x && Ver.allL Wd.paS x) := by
          have hb : (d != 47) = true := bne_iff_ne.2 fun e => hd0 (hd'.2 e)
          simp only [Wd.isPath, HL.out, HH.out, h, hc0, hb, Bool.true_and, beq_self_eq_true]
        rw [e0]
        clear hc' hd' hc0 hd0 e0
        cases hdb : Wd.dbl x
        · go_enter Tryz.func93, Tryz.ntmps93
          go_wp2_with (first
            | (go_at_call 89; refine (wLen_any x 2 24 _).mono ?_; rintro e w' ⟨rfl, rfl⟩)
            | (go_at_call 108; refine (dbl_any x hx mx _ HM.out).mono ?_; rintro e w' ⟨rfl, rfl⟩)
            | (go_at_call 55; refine (all_long _ _ enters_wPath wPath_any x hx _).mono ?_; rintro e w' ⟨rfl, hb⟩))
          go_ret
          exact ⟨ret_bool (by simp), hb⟩
        · go_enter Tryz.func93, Tryz.ntmps93
          go_wp2_with (first
            | (go_at_call 89; refine (wLen_any x 2 24 _).mono ?_; rintro e w' ⟨rfl, rfl⟩)
            | (go_at_call 108; refine (dbl_any x hx mx _ HM.out).mono ?_; rintro e w' ⟨rfl, rfl⟩))
          go_ret
          exact ⟨ret_bool (by simp), Below.refl _ _⟩
    · have e1 : Wd.isPath x = false := by simp [Wd.isPath, HH.out, hc0]
      rw [e1]
      have b1 : ((c.toNat : Int) == 47) = false := by simp [hc0]
      clear hc' hd' hc0 e1
      go_enter Tryz.func93, Tryz.ntmps93
      go_wp2_with (go_at_call 89; refine (wLen_any x 2 24 _).mono ?_; rintro e w' ⟨rfl, rfl⟩)
      go_ret
      exact ⟨rfl, Below.refl _ _⟩

set_option maxHeartbeats 400000 in
theorem isVar_any (x : List UInt8) (hx : x.length ≤ 2000) (mx : Int) (w : World) (hm : w.cell? ⟨0, 0, none⟩ = some (.int .i64 mx)) :
    Calls Tryz.prog 115 #[.string ⟨x.toArray⟩] w fun e w' => e = .returned (.bool (Wd.isVar x)) ∧ Below w.heap.size w w' := by
  have HM := hide hm; clear hm
  cases h : Wd.isPath x
  · have e1 : Wd.isVar x = false := by simp [Wd.isVar, h]
    rw [e1]
    go_enter Tryz.func115, Tryz.ntmps115
    go_wp2_with (go_at_call 93; refine (isPath_any x hx mx _ HM.out).mono ?_; rintro e w' ⟨rfl, hb⟩)
    go_ret
    exact ⟨rfl, hb⟩
  · have e1 : Wd.isVar x = Wd.under x := by simp [Wd.isVar, h]
    rw [e1]
    go_enter Tryz.func115, Tryz.ntmps115
    go_wp2_with (first
      | (go_at_call 93; refine (isPath_any x hx mx _ HM.out).mono ?_; rintro e w' ⟨rfl, hb⟩)
      | (go_at_call 111; refine (underVar_any x _).mono ?_; rintro e w' ⟨rfl, rfl⟩))
    go_ret
    exact ⟨rfl, hb⟩
end Go.Proofs.YtgdmgmklncmanaaGreatDoor
/- The walks over the document's own answer on names, words and paths. -/
namespace Go.Proofs.YtgdmgmklncmanaaGreatDoor
open Go.RowKit

theorem step_all {f : UInt8 → Bool} {x : List UInt8} {k : Nat} (h : k < x.length) (ha : (x.take k).all f = true) (hf : f x[k] = true) : (x.take (k + 1)).all f = true := by
  rw [List.take_succ_eq_append_getElem h, List.all_append, ha]; simpa using hf
theorem not_all {f : UInt8 → Bool} {x : List UInt8} {k : Nat} (h : k < x.length) (hf : f x[k] = false) : Ver.allL f x = false := by
  rw [Ver.allL, List.all_eq_false]; exact ⟨x[k], List.getElem_mem h, by simp [hf]⟩
theorem all_end {f : UInt8 → Bool} {x : List UInt8} {k : Nat} (h : ¬ k < x.length) (ha : (x.take k).all f = true) : Ver.allL f x = true := by
  rwa [List.take_of_length_le (by omega)] at ha

set_option maxHeartbeats 400000 in
theorem risWord_any (x : List UInt8) (hx : x.length ≤ 2000) (w : World) :
    Calls Tryz.prog 72 #[.string ⟨x.toArray⟩] w fun e w' => e = .returned (.bool (Wd.isWord x)) ∧ w' = w := by
  go_enter Tryz.func72, Tryz.ntmps72
  go_wp2_with fail
  go_loop [3] (fun i => ∃ k : Nat, k ≤ x.length ∧ i = .int .i64 k ∧ (x.take k).all Wd.woS = true) (fun i => x.length - (intOf i).toNat)
  case atStart => exact ⟨0, Nat.zero_le _, rfl, rfl⟩
  case round =>
    obtain ⟨k, hk, rfl, ha⟩ := hrel
    have HA := hide ha; clear ha
    by_cases hlt : k < x.length
    · obtain ⟨c, hc, hcx⟩ : ∃ c, (⟨x.toArray⟩ : ByteArray)[k]'hlt = c ∧ x[k] = c := ⟨_, rfl, rfl⟩
      have HC := hide hcx; clear hcx
      by_cases h1 : (c.toNat : Int) < 33
      · have hb : Wd.woS c = false := by simp [Wd.woS]; omega
        have HB := hide (show Wd.isWord x = false by rw [Wd.isWord, not_all hlt (f := Wd.woS) (by rw [HC.out]; exact hb)]; simp)
        clear hb
        go_wp2_with fail
        go_ret
        exact ⟨ret_bool HB.out.symm, rfl⟩
      · by_cases h2 : (126 : Int) < c.toNat
        · have hb : Wd.woS c = false := by simp [Wd.woS]; omega
          have HB := hide (show Wd.isWord x = false by rw [Wd.isWord, not_all hlt (f := Wd.woS) (by rw [HC.out]; exact hb)]; simp)
          clear hb
          go_wp2_with fail
          go_ret
          exact ⟨ret_bool HB.out.symm, rfl⟩
        · have hb : Wd.woS c = true := by simp [Wd.woS]; omega
          have HB := hide hb; clear hb
          go_wp2_with fail
          go_round
          case rel => exact ⟨k + 1, by omega, by go_num, step_all hlt HA.out (by rw [HC.out]; exact HB.out)⟩
          case measure => simp [intOf]; omega
    · have he := all_end hlt HA.out
      have HE := hide (show Wd.isWord x = Wd.lenIn x 1 16 by simp [Wd.isWord, he])
      clear he
      go_wp2_with fail
      all_goals (go_ret; exact ⟨ret_bool (by rw [HE.out, Wd.lenIn, Bool.eq_iff_iff]; simp; try omega), rfl⟩)

theorem name_head {x : List UInt8} {k : Nat} {c : UInt8} (h : k < x.length) (hh : 0 < k → Wd.headIs Wd.low x = true) (hc : x[k] = c) (hl : Wd.low c = true) : Wd.headIs Wd.low x = true := by
  by_cases h0 : 0 < k
  · exact hh h0
  · have : k = 0 := by omega
    subst this
    cases x with
    | nil => simp at h
    | cons d l => simp at hc; subst hc; exact hl
theorem name_bad {x : List UInt8} {c : UInt8} (h : 0 < x.length) (hc : x[0] = c) (hl : Wd.low c = false) : Wd.headIs Wd.low x = false := by
  cases x with
  | nil => simp at h
  | cons d l => simp at hc; subst hc; exact hl
theorem name_end {x : List UInt8} {k : Nat} (he : Ver.allL Wd.nmS x = true) (hk : k ≤ x.length) (hlt : ¬ k < x.length) (hh : 0 < k → Wd.headIs Wd.low x = true) : Wd.isName x = Wd.lenIn x 1 12 := by
  by_cases h0 : 0 < x.length
  · simp [Wd.isName, he, hh (by omega)]
  · have : Wd.lenIn x 1 12 = false := by simp [Wd.lenIn]; omega
    simp [Wd.isName, this]

set_option maxHeartbeats 1000000 in
theorem rIsName_any (x : List UInt8) (hx : x.length ≤ 2000) (w : World) :
    Calls Tryz.prog 45 #[.string ⟨x.toArray⟩] w fun e w' => e = .returned (.bool (Wd.isName x)) ∧ w' = w := by
  go_enter Tryz.func45, Tryz.ntmps45
  go_wp2_with fail
  go_loop [3] (fun i => ∃ k : Nat, k ≤ x.length ∧ i = .int .i64 k ∧ (x.take k).all Wd.nmS = true ∧ (0 < k → Wd.headIs Wd.low x = true)) (fun i => x.length - (intOf i).toNat)
  case atStart => exact ⟨0, Nat.zero_le _, rfl, rfl, fun h => absurd h (by omega)⟩
  case round =>
    obtain ⟨k, hk, rfl, ha, hh⟩ := hrel
    have HA := hide ha; have HH := hide hh; clear ha hh
    by_cases hlt : k < x.length
    · obtain ⟨c, hc, hcx⟩ : ∃ c, (⟨x.toArray⟩ : ByteArray)[k]'hlt = c ∧ x[k] = c := ⟨_, rfl, rfl⟩
      have HC := hide hcx; clear hcx
      by_cases hl : 97 ≤ (c.toNat : Int) ∧ (c.toNat : Int) ≤ 122
      · obtain ⟨g1, g2⟩ := hl
        have hlow : Wd.low c = true := by simp [Wd.low]; omega
        have hb : Wd.nmS c = true := by simp [Wd.nmS, hlow]
        have HB := hide hb; have HL := hide hlow; clear hb hlow
        go_wp2_with (go_at_call 35; refine (rdigit_any _ _).mono ?_; rintro e w' ⟨rfl, rfl⟩)
        go_round
        case rel => exact ⟨k + 1, by omega, by go_num, step_all hlt HA.out (by rw [HC.out]; exact HB.out), fun _ => name_head hlt HH.out HC.out HL.out⟩
        case measure => simp [intOf]; omega
      · have hlow : Wd.low c = false := by simp [Wd.low]; omega
        have hsmall : (97 ≤ (c.toNat : Int) ∧ decide ((c.toNat : Int) ≤ 122) = false) ∨ (decide (97 ≤ (c.toNat : Int)) = false) := by simp only [decide_eq_false_iff_not]; omega
        clear hl
        by_cases hk0 : k = 0
        · subst hk0
          have HB := hide (show Wd.isName x = false by rw [Wd.isName, name_bad hlt HC.out hlow]; simp)
          clear hlow
          rcases hsmall with ⟨g1, g2⟩ | g1
          all_goals
            go_wp2_with (go_at_call 35; refine (rdigit_any _ _).mono ?_; rintro e w' ⟨rfl, rfl⟩)
            go_ret
            exact ⟨ret_bool HB.out.symm, rfl⟩
        · have hk1 : ((k : Int) == 0) = false := by simp; omega
          cases hd : Ver.isD c
          · by_cases h45 : (c.toNat : Int) = 45
            · have hb : Wd.nmS c = true := by simp [Wd.nmS, h45]
              have HB := hide hb; clear hb
              have hm : ((c.toNat : Int) != 45) = false := by simp [h45]
              clear h45
              rcases hsmall with ⟨g1, g2⟩ | g1
              all_goals
                go_wp2_with (go_at_call 35; refine (rdigit_any _ _).mono ?_; rintro e w' ⟨rfl, rfl⟩)
                go_round
                case rel => exact ⟨k + 1, by omega, by go_num, step_all hlt HA.out (by rw [HC.out]; exact HB.out), fun _ => HH.out (by omega)⟩
                case measure => simp [intOf]; omega
            · have hb : Wd.nmS c = false := by
                have : (decide (48 ≤ (c.toNat : Int)) && decide ((c.toNat : Int) ≤ 57)) = false := hd
                simp only [Wd.nmS, hlow, this, Bool.false_or]; simpa using h45
              have HB := hide (show Wd.isName x = false by rw [Wd.isName, not_all hlt (f := Wd.nmS) (by rw [HC.out]; exact hb)]; simp)
              clear hb hlow
              have hm : ((c.toNat : Int) != 45) = true := by simp [h45]
              clear h45
              rcases hsmall with ⟨g1, g2⟩ | g1
              all_goals
                go_wp2_with (go_at_call 35; refine (rdigit_any _ _).mono ?_; rintro e w' ⟨rfl, rfl⟩)
                go_ret
                exact ⟨ret_bool HB.out.symm, rfl⟩
          · have hb : Wd.nmS c = true := by
              have : (decide (48 ≤ (c.toNat : Int)) && decide ((c.toNat : Int) ≤ 57)) = true := hd
              simp only [Wd.nmS, this]; simp
            have HB := hide hb; clear hb
            rcases hsmall with ⟨g1, g2⟩ | g1
            all_goals
              go_wp2_with (go_at_call 35; refine (rdigit_any _ _).mono ?_; rintro e w' ⟨rfl, rfl⟩)
              go_round
              case rel => exact ⟨k + 1, by omega, by go_num, step_all hlt HA.out (by rw [HC.out]; exact HB.out), fun _ => HH.out (by omega)⟩
              case measure => simp [intOf]; omega
    · have he := all_end hlt HA.out
      have HE := hide (name_end he hk hlt HH.out)
      clear he
      go_wp2_with fail
      all_goals (go_ret; exact ⟨ret_bool (by rw [HE.out, Wd.lenIn, Bool.eq_iff_iff]; simp; try omega), rfl⟩)
end Go.Proofs.YtgdmgmklncmanaaGreatDoor
