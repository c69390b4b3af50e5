/- Of Ins: SizeW3, FileW1. -/
import Derived.Test.YtgdmgmklncmanaaGreatDoorIns32
import Derived.Test.YtgdmgmklncmanaaGreatDoorIns5
import Derived.Test.YtgdmgmklncmanaaGreatDoorIns12
/- The walk over a size, whole: every text. -/
namespace Go.Proofs.YtgdmgmklncmanaaGreatDoor
open Go.RowKit

/-- No size: too short, or too long. -/
theorem size_short (w : World) : Calls Tryz.prog 110 #[.string ⟨#[]⟩] w fun e w' => e = .returned (.tuple #[.int .i64 0, .bool false]) ∧ Below w.heap.size w w' := by
  go_enter Tryz.func110, Tryz.ntmps110
  go_wp2_with fail
  go_ret2
  exact ⟨rfl, Below.refl _ _⟩
theorem size_long (x : List UInt8) (h4 : 4 < x.length) (hx : x.length ≤ 2000) (w : World) : Calls Tryz.prog 110 #[.string ⟨x.toArray⟩] w fun e w' => e = .returned (.tuple #[.int .i64 0, .bool false]) ∧ Below w.heap.size w w' := by
  have he : (x == []) = false := by cases x with
    | nil => simp at h4
    | cons c l => rfl
  have b4 : (4 : Int) < x.length := by omega
  go_enter Tryz.func110, Tryz.ntmps110
  go_wp2_with fail
  go_ret2
  exact ⟨rfl, Below.refl _ _⟩
/-- No size: another byte than a digit. -/
theorem size_other (x : List UInt8) (h1 : 1 ≤ x.length) (h4 : x.length ≤ 4) (ht : Lib.trimS x tenD ≠ []) (w : World) : Calls Tryz.prog 110 #[.string ⟨x.toArray⟩] w fun e w' => e = .returned (.tuple #[.int .i64 0, .bool false]) ∧ Below w.heap.size w w' := by
  have he : (x == []) = false := by cases x with
    | nil => simp at h1
    | cons c l => rfl
  have b4 : ¬ (4 : Int) < x.length := by omega
  obtain ⟨y, hy⟩ : ∃ y, Lib.trimS x tenD = y := ⟨_, rfl⟩
  have hn : (y == []) = false := by
    rw [hy] at ht; cases y with
    | nil => exact absurd rfl ht
    | cons c l => rfl
  have HY := hide hy
  clear ht hy
  go_enter Tryz.func110, Tryz.ntmps110
  go_wp2_with (go_at_call 120; refine (trimD_any x (by omega) _).mono ?_; rintro e w1 ⟨he1, hb1⟩; rw [HY.out] at he1; subst he1)
  go_ret2
  exact ⟨rfl, hb1⟩
/-- No size: a nought in front. -/
theorem size_nought (x : List UInt8) (h1 : 1 < x.length) (h4 : x.length ≤ 4) (hd : Wd.headIs (fun c => (c.toNat : Int) == 48) x = true) (ht : Lib.trimS x tenD = []) (w : World) : Calls Tryz.prog 110 #[.string ⟨x.toArray⟩] w fun e w' => e = .returned (.tuple #[.int .i64 0, .bool false]) ∧ Below w.heap.size w w' := by
  obtain ⟨c0, hc0, hhead⟩ : ∃ c0, (⟨x.toArray⟩ : ByteArray)[0]'(by show 0 < x.length; omega) = c0 ∧ ∀ f, Wd.headIs f x = f c0 := by
    cases x with
    | nil => simp at h1
    | cons c l => exact ⟨c, rfl, fun _ => rfl⟩
  rw [hhead] at hd
  have he : (x == []) = false := by cases x with
    | nil => simp at h1
    | cons c l => rfl
  have h0 : (x == [48]) = false := by
    apply beq_eq_false_iff_ne.2; rintro rfl; simp at h1
  have b4 : ¬ (4 : Int) < x.length := by omega
  have hp : (0 : Int) < x.length := by omega
  have HT := hide ht
  clear ht hhead
  go_enter Tryz.func110, Tryz.ntmps110
  go_wp2_with (go_at_call 120; refine (trimD_any x (by omega) _).mono ?_; rintro e w1 ⟨he1, hb1⟩; rw [HT.out] at he1; subst he1)
  go_ret2
  exact ⟨rfl, hb1⟩
/-- The one size that begins with a nought. -/
theorem size_zero (w : World) : Calls Tryz.prog 110 #[.string ⟨#[48]⟩] w fun e w' => e = .returned (.tuple #[.int .i64 0, .bool true]) ∧ Below w.heap.size w w' := by
  have ht : Lib.trimS [48] tenD = [] := by decide +kernel
  have ha : Lib.atoi [48] = some 0 := by decide +kernel
  go_enter Tryz.func110, Tryz.ntmps110
  go_wp2_with (first
    | (go_at_call 120; refine (trimD_any [48] (by simp) _).mono ?_; rintro e w1 ⟨he1, hb1⟩; rw [ht] at he1; subst he1)
    | (go_at_call 121; refine (atoi_any [48] 0 (by simp) ha _).mono ?_; rintro e w2 ⟨rfl, hb2⟩))
  go_quiet (fail)
  go_wp2_with fail
  go_ret2
  exact ⟨rfl, below_drewN (hb1.trans (hb2.mono hb1.size)) _⟩
/-- What the program says of a word as a size, and whether. -/
def szN (x : List UInt8) : Int := if sz x < 0 then 0 else sz x
def szB (x : List UInt8) : Bool := decide (0 ≤ sz x)
theorem sz_yes {x : List UInt8} (hl : Wd.lenIn x 1 4 = true) (hn : ¬ (Wd.headIs (fun c => (c.toNat : Int) == 48) x = true ∧ 1 < x.length)) (hd : x.all Ver.isD = true) : szN x = Ver.val x ∧ szB x = true := by
  have hz : sz x = Ver.val x := by rw [sz, if_pos ⟨hl, hn, hd⟩]
  have h0 : 0 ≤ Ver.val x := by rw [Ver.val_vr]; exact (Ver.vr_bd x (List.all_eq_true.1 hd)).1
  exact ⟨by rw [szN, hz, if_neg (by omega)], by rw [szB, hz]; simpa using h0⟩
theorem sz_no {x : List UInt8} (h : ¬ (Wd.lenIn x 1 4 = true ∧ ¬ (Wd.headIs (fun c => (c.toNat : Int) == 48) x = true ∧ 1 < x.length) ∧ x.all Ver.isD = true)) : szN x = 0 ∧ szB x = false := by
  have hz : sz x = -1 := by rw [sz, if_neg h]
  exact ⟨by rw [szN, hz]; rfl, by rw [szB, hz]; rfl⟩
/-- Every text as a size. -/
theorem size_any (x : List UInt8) (hx : x.length ≤ 2000) (w : World) : Calls Tryz.prog 110 #[.string ⟨x.toArray⟩] w fun e w' => e = .returned (.tuple #[.int .i64 (szN x), .bool (szB x)]) ∧ Below w.heap.size w w' := by
  by_cases h1 : 1 ≤ x.length
  · by_cases h4 : x.length ≤ 4
    · have hl : Wd.lenIn x 1 4 = true := by simp [Wd.lenIn, h1, h4]
      by_cases hd : x.all Ver.isD = true
      · have ht := (trim_all x).2 hd
        by_cases hn : Wd.headIs (fun c => (c.toNat : Int) == 48) x = true
        · by_cases h2 : 1 < x.length
          · obtain ⟨e1, e2⟩ := sz_no (x := x) (fun h => h.2.1 ⟨hn, h2⟩)
            rw [e1, e2]; exact size_nought x h2 h4 hn ht w
          · obtain ⟨e1, e2⟩ := sz_yes hl (fun h => h2 h.2) hd
            rw [e1, e2]
            match x, h1, h2, hn with
            | [c], _, _, hn =>
              have hc : c = 48 := by
                simp only [Wd.headIs, beq_iff_eq] at hn
                apply UInt8.toNat_inj.1
                show c.toNat = 48
                omega
              subst hc
              exact size_zero w
            | a :: b :: l, _, h2, _ => simp at h2
        · obtain ⟨e1, e2⟩ := sz_yes hl (fun h => hn h.1) hd
          rw [e1, e2]
          exact size_ok x (Ver.val x) h1 h4 (by simpa using hn) ht (atoi_val x h1 hd) w
      · obtain ⟨e1, e2⟩ := sz_no (x := x) (fun h => hd h.2.2)
        rw [e1, e2]; exact size_other x h1 h4 (fun h => hd ((trim_all x).1 h)) w
    · obtain ⟨e1, e2⟩ := sz_no (x := x) (fun h => by have := h.1; simp [Wd.lenIn] at this; omega)
      rw [e1, e2]; exact size_long x (by omega) hx w
  · have : x = [] := by cases x with
      | nil => rfl
      | cons c l => simp at h1
    subst this
    obtain ⟨e1, e2⟩ := sz_no (x := ([] : List UInt8)) (fun h => by have := h.1; simp [Wd.lenIn] at this)
    rw [e1, e2]; exact size_short w
end Go.Proofs.YtgdmgmklncmanaaGreatDoor
/- The walks over a file's line: every way. (Written by tools/gen_filew1.py.) -/
namespace Go.Proofs.YtgdmgmklncmanaaGreatDoor
open Go.RowKit
open Arc (St Cmd S)

theorem size_yes (z : S) (hz : z.length ≤ 2000) (n : Nat) (h : sz z = (n : Int)) (w : World) : Calls Tryz.prog 110 #[.string ⟨z.toArray⟩] w fun e w' => e = .returned (.tuple #[.int .i64 (n : Int), .bool true]) ∧ Below w.heap.size w w' := by
  have h1 : szN z = (n : Int) := by rw [szN, h, if_neg (by omega)]
  have h2 : szB z = true := by rw [szB, h]; simp
  have := size_any z hz w
  rwa [h1, h2] at this
theorem size_nope (z : S) (hz : z.length ≤ 2000) (h : sz z < 0) (w : World) : Calls Tryz.prog 110 #[.string ⟨z.toArray⟩] w fun e w' => e = .returned (.tuple #[.int .i64 0, .bool false]) ∧ Below w.heap.size w w' := by
  have h1 : szN z = 0 := by rw [szN, if_pos h]
  have h2 : szB z = false := by rw [szB]; simp; omega
  have := size_any z hz w
  rwa [h1, h2] at this
set_option maxHeartbeats 400000 in
theorem file_count (pb q o n c : Nat) (hn : n ≠ 3) (w : World) :
    Calls Tryz.prog 94 #[.pointer (some ⟨pb, 0, none⟩), .slice (some ⟨q, o, none⟩) n c] w fun e w' => e = .returned (.bool false) ∧ Below w.heap.size w w' := by
  have hb : ((n : Int) == 3) = false := by simp; omega
  have hb2 : (n : Int) ≠ 3 := by omega
  go_enter Tryz.func94, Tryz.ntmps94
  go_wp2_with fail
  go_ret
  exact ⟨rfl, Below.refl _ _⟩

set_option maxRecDepth 100000 in
set_option maxHeartbeats 1000000 in
theorem file_size (pb q o c : Nat) (nm ve : S) (st : St) (sl : Fin 6 → Value) (path z hsh : S) (w : World) (h : PIn pb nm ve st sl w)
    (hzl : z.length ≤ 2000) (hsz : sz z < 0)
    (c0 : w.cell? ⟨q, o, none⟩ = some (.string ⟨path.toArray⟩)) (c1 : w.cell? ⟨q, o + 1, none⟩ = some (.string ⟨z.toArray⟩)) (c2 : w.cell? ⟨q, o + 2, none⟩ = some (.string ⟨hsh.toArray⟩)) :
    Calls Tryz.prog 94 #[.pointer (some ⟨pb, 0, none⟩), .slice (some ⟨q, o, none⟩) 3 c] w fun e w' => e = .returned (.bool false) ∧ Below w.heap.size w w' := by
  have hlt := h.lt
  have H := hide h; clear h
  have HSZ := hide hsz; clear hsz
  go_enter Tryz.func94, Tryz.ntmps94
  go_wp2_with fail
  go_quiet (fail)
  go_wp2_with (first
    | (go_at_call 110; refine (size_nope z hzl HSZ.out _).mono ?_; rintro e w1 ⟨rfl, hb1⟩; have HP1 := hide ((H.out.drewN nq).below hb1); have k1 := (row_cell HP1.out.blk 8).trans (show _ = some (.string ⟨st.left.toArray⟩) from rfl); have HB1 : Hid (Below w.heap.size w w1) := hide ((below_drewN (Below.refl _ w) nq).trans hb1); clear hb1))
  go_ret
  exact ⟨rfl, HB1.out⟩

set_option maxRecDepth 100000 in
set_option maxHeartbeats 1000000 in
theorem file_long (pb q o c : Nat) (nm ve : S) (st : St) (sl : Fin 6 → Value) (path z hsh : S) (w : World) (h : PIn pb nm ve st sl w)
    (hzl : z.length ≤ 2000) (n : Nat) (hsz : sz z = (n : Int)) (hn : st.left.length < n)
    (c0 : w.cell? ⟨q, o, none⟩ = some (.string ⟨path.toArray⟩)) (c1 : w.cell? ⟨q, o + 1, none⟩ = some (.string ⟨z.toArray⟩)) (c2 : w.cell? ⟨q, o + 2, none⟩ = some (.string ⟨hsh.toArray⟩)) :
    Calls Tryz.prog 94 #[.pointer (some ⟨pb, 0, none⟩), .slice (some ⟨q, o, none⟩) 3 c] w fun e w' => e = .returned (.bool false) ∧ Below w.heap.size w w' := by
  have hlt := h.lt
  have H := hide h; clear h
  have HSZ := hide hsz; clear hsz
  have gb : (st.left.length : Int) < (n : Int) := by omega
  go_enter Tryz.func94, Tryz.ntmps94
  go_wp2_with fail
  go_quiet (fail)
  go_wp2_with (first
    | (go_at_call 110; refine (size_yes z hzl n HSZ.out _).mono ?_; rintro e w1 ⟨rfl, hb1⟩; have HP1 := hide ((H.out.drewN nq).below hb1); have k1 := (row_cell HP1.out.blk 8).trans (show _ = some (.string ⟨st.left.toArray⟩) from rfl); have HB1 : Hid (Below w.heap.size w w1) := hide ((below_drewN (Below.refl _ w) nq).trans hb1); clear hb1))
  go_ret
  exact ⟨rfl, HB1.out⟩

set_option maxRecDepth 100000 in
set_option maxHeartbeats 1000000 in
theorem file_path (pb q o c : Nat) (nm ve : S) (st : St) (sl : Fin 6 → Value) (path z hsh : S) (mx : Int) (w : World) (h : PIn pb nm ve st sl w) (hp0 : 9 ≤ pb)
    (hpl : path.length ≤ 2000) (hzl : z.length ≤ 2000) (n : Nat) (hsz : sz z = (n : Int)) (hn : n ≤ st.left.length) (hpath : Wd.isPath path = false) (hm : w.cell? ⟨0, 0, none⟩ = some (.int .i64 mx))
    (c0 : w.cell? ⟨q, o, none⟩ = some (.string ⟨path.toArray⟩)) (c1 : w.cell? ⟨q, o + 1, none⟩ = some (.string ⟨z.toArray⟩)) (c2 : w.cell? ⟨q, o + 2, none⟩ = some (.string ⟨hsh.toArray⟩)) :
    Calls Tryz.prog 94 #[.pointer (some ⟨pb, 0, none⟩), .slice (some ⟨q, o, none⟩) 3 c] w fun e w' => e = .returned (.bool false) ∧ Below w.heap.size w w' := by
  have hlt := h.lt
  have H := hide h; clear h
  have HSZ := hide hsz; clear hsz
  have HM := hide hm; clear hm
  have gb : (n : Int) ≤ (st.left.length : Int) := by omega
  have gb2 : ¬ (st.left.length : Int) < (n : Int) := by omega
  go_enter Tryz.func94, Tryz.ntmps94
  go_wp2_with fail
  go_quiet (fail)
  go_wp2_with (first
    | (go_at_call 110; refine (size_yes z hzl n HSZ.out _).mono ?_; rintro e w1 ⟨rfl, hb1⟩; have HP1 := hide ((H.out.drewN nq).below hb1); have k1 := (row_cell HP1.out.blk 8).trans (show _ = some (.string ⟨st.left.toArray⟩) from rfl); have HB1 : Hid (Below w.heap.size w w1) := hide ((below_drewN (Below.refl _ w) nq).trans hb1); clear hb1)
    | (go_at_call 93; refine (isPath_any path hpl mx _ ((HB1.out.cell (p := ⟨0, 0, none⟩) (by show 0 < w.heap.size; omega)).trans HM.out)).mono ?_; rintro e w2 ⟨he2, hb2⟩; rw [hpath] at he2; subst he2; have HP2 := hide (HP1.out.below hb2); have k2 := (row_cell HP2.out.blk 8).trans (show _ = some (.string ⟨st.left.toArray⟩) from rfl); have HB2 := hide (HB1.out.trans (hb2.mono HB1.out.size)); clear hb2))
  go_ret
  exact ⟨rfl, HB2.out⟩

set_option maxRecDepth 100000 in
set_option maxHeartbeats 1000000 in
theorem file_under (pb q o c : Nat) (nm ve : S) (st : St) (sl : Fin 6 → Value) (path z hsh : S) (mx : Int) (w : World) (h : PIn pb nm ve st sl w) (hp0 : 9 ≤ pb)
    (hpl : path.length ≤ 2000) (hzl : z.length ≤ 2000) (n : Nat) (hsz : sz z = (n : Int)) (hn : n ≤ st.left.length) (hpath : Wd.isPath path = true) (hund : Wd.under path = true) (hm : w.cell? ⟨0, 0, none⟩ = some (.int .i64 mx))
    (c0 : w.cell? ⟨q, o, none⟩ = some (.string ⟨path.toArray⟩)) (c1 : w.cell? ⟨q, o + 1, none⟩ = some (.string ⟨z.toArray⟩)) (c2 : w.cell? ⟨q, o + 2, none⟩ = some (.string ⟨hsh.toArray⟩)) :
    Calls Tryz.prog 94 #[.pointer (some ⟨pb, 0, none⟩), .slice (some ⟨q, o, none⟩) 3 c] w fun e w' => e = .returned (.bool false) ∧ Below w.heap.size w w' := by
  have hlt := h.lt
  have H := hide h; clear h
  have HSZ := hide hsz; clear hsz
  have HM := hide hm; clear hm
  have gb : (n : Int) ≤ (st.left.length : Int) := by omega
  have gb2 : ¬ (st.left.length : Int) < (n : Int) := by omega
  go_enter Tryz.func94, Tryz.ntmps94
  go_wp2_with fail
  go_quiet (fail)
  go_wp2_with (first
    | (go_at_call 110; refine (size_yes z hzl n HSZ.out _).mono ?_; rintro e w1 ⟨rfl, hb1⟩; have HP1 := hide ((H.out.drewN nq).below hb1); have k1 := (row_cell HP1.out.blk 8).trans (show _ = some (.string ⟨st.left.toArray⟩) from rfl); have HB1 : Hid (Below w.heap.size w w1) := hide ((below_drewN (Below.refl _ w) nq).trans hb1); clear hb1)
    | (go_at_call 93; refine (isPath_any path hpl mx _ ((HB1.out.cell (p := ⟨0, 0, none⟩) (by show 0 < w.heap.size; omega)).trans HM.out)).mono ?_; rintro e w2 ⟨he2, hb2⟩; rw [hpath] at he2; subst he2; have HP2 := hide (HP1.out.below hb2); have k2 := (row_cell HP2.out.blk 8).trans (show _ = some (.string ⟨st.left.toArray⟩) from rfl); have HB2 := hide (HB1.out.trans (hb2.mono HB1.out.size)); clear hb2)
    | (go_at_call 111; refine (underVar_any path _).mono ?_; rintro e w3 ⟨he3, rfl⟩; rw [hund] at he3; subst he3))
  go_ret
  exact ⟨rfl, HB2.out⟩

set_option maxRecDepth 100000 in
set_option maxHeartbeats 1000000 in
theorem file_has (pb q o c : Nat) (nm ve : S) (st : St) (sl : Fin 6 → Value) (path z hsh : S) (mx : Int) (w : World) (h : PIn pb nm ve st sl w) (hp0 : 9 ≤ pb) (hf : st.files.length ≤ 2000)
    (hpl : path.length ≤ 2000) (hzl : z.length ≤ 2000) (n : Nat) (hsz : sz z = (n : Int)) (hn : n ≤ st.left.length) (hpath : Wd.isPath path = true) (hund : Wd.under path = false) (hhas : (st.files.any fun f => f.1 == path) = true) (hm : w.cell? ⟨0, 0, none⟩ = some (.int .i64 mx))
    (c0 : w.cell? ⟨q, o, none⟩ = some (.string ⟨path.toArray⟩)) (c1 : w.cell? ⟨q, o + 1, none⟩ = some (.string ⟨z.toArray⟩)) (c2 : w.cell? ⟨q, o + 2, none⟩ = some (.string ⟨hsh.toArray⟩)) :
    Calls Tryz.prog 94 #[.pointer (some ⟨pb, 0, none⟩), .slice (some ⟨q, o, none⟩) 3 c] w fun e w' => e = .returned (.bool false) ∧ Below w.heap.size w w' := by
  have hlt := h.lt
  have H := hide h; clear h
  have HSZ := hide hsz; clear hsz
  have HM := hide hm; clear hm
  have gb : (n : Int) ≤ (st.left.length : Int) := by omega
  have gb2 : ¬ (st.left.length : Int) < (n : Int) := by omega
  go_enter Tryz.func94, Tryz.ntmps94
  go_wp2_with fail
  go_quiet (fail)
  go_wp2_with (first
    | (go_at_call 110; refine (size_yes z hzl n HSZ.out _).mono ?_; rintro e w1 ⟨rfl, hb1⟩; have HP1 := hide ((H.out.drewN nq).below hb1); have k1 := (row_cell HP1.out.blk 8).trans (show _ = some (.string ⟨st.left.toArray⟩) from rfl); have HB1 : Hid (Below w.heap.size w w1) := hide ((below_drewN (Below.refl _ w) nq).trans hb1); clear hb1)
    | (go_at_call 93; refine (isPath_any path hpl mx _ ((HB1.out.cell (p := ⟨0, 0, none⟩) (by show 0 < w.heap.size; omega)).trans HM.out)).mono ?_; rintro e w2 ⟨he2, hb2⟩; rw [hpath] at he2; subst he2; have HP2 := hide (HP1.out.below hb2); have k2 := (row_cell HP2.out.blk 8).trans (show _ = some (.string ⟨st.left.toArray⟩) from rfl); have HB2 := hide (HB1.out.trans (hb2.mono HB1.out.size)); clear hb2)
    | (go_at_call 111; refine (underVar_any path _).mono ?_; rintro e w3 ⟨he3, rfl⟩; rw [hund] at he3; subst he3)
    | (go_at_call 112; refine (hasFile_any pb nm ve st sl path _ HP2.out hf).mono ?_; rintro e w3 ⟨he4, hb3⟩; rw [hhas] at he4; subst he4; have HP3 := hide (HP2.out.below hb3); have k3 := (row_cell HP3.out.blk 8).trans (show _ = some (.string ⟨st.left.toArray⟩) from rfl); have f3 := row_free HP3.out.blk 8; have hl3 := HP3.out.lt; have HB3 := hide (HB2.out.trans (hb3.mono HB2.out.size)); clear hb3))
  go_ret
  exact ⟨rfl, HB3.out⟩

set_option maxRecDepth 100000 in
set_option maxHeartbeats 1000000 in
theorem file_any (pb q o c : Nat) (nm ve : S) (st : St) (sl : Fin 6 → Value) (path z hsh : S) (mx : Int) (K : Nat → Int) (w : World) (h : PIn pb nm ve st sl w) (hp0 : 9 ≤ pb) (hf : st.files.length ≤ 2000)
    (hpl : path.length ≤ 2000) (hzl : z.length ≤ 2000) (hleft : st.left.length ≤ 2000) (n : Nat) (hsz : sz z = (n : Int)) (hn : n ≤ st.left.length) (hpath : Wd.isPath path = true) (hund : Wd.under path = false) (hhas : (st.files.any fun f => f.1 == path) = false) (hm : w.cell? ⟨0, 0, none⟩ = some (.int .i64 mx)) (hK : ∀ i : Nat, i < 64 → w.cell? ⟨3, i, none⟩ = some (.int .u32 (K i)))
    (c0 : w.cell? ⟨q, o, none⟩ = some (.string ⟨path.toArray⟩)) (c1 : w.cell? ⟨q, o + 1, none⟩ = some (.string ⟨z.toArray⟩)) (c2 : w.cell? ⟨q, o + 2, none⟩ = some (.string ⟨hsh.toArray⟩)) :
    Calls Tryz.prog 94 #[.pointer (some ⟨pb, 0, none⟩), .slice (some ⟨q, o, none⟩) 3 c] w fun e w' => e = .returned (.bool (short K (st.left.take n) == hsh)) ∧ ∃ sl', PIn pb nm ve { st with files := st.files ++ [(path, st.left.take n)], left := st.left.drop n } sl' w' ∧ Below pb w w' := by
  obtain ⟨i0, hi, hz0, hz1, hz2⟩ := info_three info_file
  have hlt := h.lt
  have H := hide h; clear h
  have HSZ := hide hsz; clear hsz
  have HM := hide hm; clear hm
  have HK := hide hK; clear hK
  have e1 : (⟨st.left.toArray⟩ : ByteArray).extract 0 n = ⟨(st.left.take n).toArray⟩ := list_ext_take st.left n
  have e2 : (⟨st.left.toArray⟩ : ByteArray).extract n st.left.length = ⟨(st.left.drop n).toArray⟩ := list_ext_drop st.left n
  have gb : (n : Int) ≤ (st.left.length : Int) := by omega
  have gb2 : ¬ (st.left.length : Int) < (n : Int) := by omega
  go_enter Tryz.func94, Tryz.ntmps94
  go_wp2_with fail
  go_quiet (fail)
  go_wp2_with (first
    | (go_at_call 110; refine (size_yes z hzl n HSZ.out _).mono ?_; rintro e w1 ⟨rfl, hb1⟩; have HP1 := hide ((H.out.drewN nq).below hb1); have k1 := (row_cell HP1.out.blk 8).trans (show _ = some (.string ⟨st.left.toArray⟩) from rfl); have HB1 : Hid (Below w.heap.size w w1) := hide ((below_drewN (Below.refl _ w) nq).trans hb1); clear hb1)
    | (go_at_call 93; refine (isPath_any path hpl mx _ ((HB1.out.cell (p := ⟨0, 0, none⟩) (by show 0 < w.heap.size; omega)).trans HM.out)).mono ?_; rintro e w2 ⟨he2, hb2⟩; rw [hpath] at he2; subst he2; have HP2 := hide (HP1.out.below hb2); have k2 := (row_cell HP2.out.blk 8).trans (show _ = some (.string ⟨st.left.toArray⟩) from rfl); have HB2 := hide (HB1.out.trans (hb2.mono HB1.out.size)); clear hb2)
    | (go_at_call 111; refine (underVar_any path _).mono ?_; rintro e w3 ⟨he3, rfl⟩; rw [hund] at he3; subst he3)
    | (go_at_call 112; refine (hasFile_any pb nm ve st sl path _ HP2.out hf).mono ?_; rintro e w3 ⟨he4, hb3⟩; rw [hhas] at he4; subst he4; have HP3 := hide (HP2.out.below hb3); have k3 := (row_cell HP3.out.blk 8).trans (show _ = some (.string ⟨st.left.toArray⟩) from rfl); have f3 := row_free HP3.out.blk 8; have hl3 := HP3.out.lt; have HB3 := hide (HB2.out.trans (hb3.mono HB2.out.size)); clear hb3))
  have hfb : ((w3.setCell ⟨pb, 8, none⟩ (.string ⟨(st.left.drop n).toArray⟩)).alloc (.cells #[.string ⟨path.toArray⟩, .string ⟨(st.left.take n).toArray⟩] 102)).heap[w3.heap.size]? = some (.cells #[.string ⟨path.toArray⟩, .string ⟨(st.left.take n).toArray⟩] 102 (0, 0)) := by
    have := heap_alloc_new (w3.setCell ⟨pb, 8, none⟩ (.string ⟨(st.left.drop n).toArray⟩)) (.cells #[.string ⟨path.toArray⟩, .string ⟨(st.left.take n).toArray⟩] 102)
    rwa [show (w3.setCell ⟨pb, 8, none⟩ (.string ⟨(st.left.drop n).toArray⟩)).heap.size = w3.heap.size from by simp] at this
  have P4 := (HP3.out.left (st.left.drop n)).alloc (.cells #[.string ⟨path.toArray⟩, .string ⟨(st.left.take n).toArray⟩] 102)
  have B4 : Below pb w ((w3.setCell ⟨pb, 8, none⟩ (.string ⟨(st.left.drop n).toArray⟩)).alloc (.cells #[.string ⟨path.toArray⟩, .string ⟨(st.left.take n).toArray⟩] 102)) :=
    ((show Below pb w w3 from HB3.out.mono (by omega)).setCell (p := ⟨pb, 8, none⟩) (Nat.le_refl _) _).alloc (by have := HP3.out.lt; simp; omega) _
  have hus : ((w3.setCell ⟨pb, 8, none⟩ (.string ⟨(st.left.drop n).toArray⟩)).alloc (.cells #[.string ⟨path.toArray⟩, .string ⟨(st.left.take n).toArray⟩] 102)).heap.size = w3.heap.size + 1 := by simp
  have hne : some w3.heap.size ≠ (sl 3).ownBlock := fun e => by have := ((HP3.out.own 3).lt _ e.symm).2; omega
  have e0 : strV (st.left.drop n) = .string ⟨(st.left.drop n).toArray⟩ := rfl
  rw [e0] at P4
  obtain ⟨fb, hfbe⟩ : ∃ fb, w3.heap.size = fb := ⟨_, rfl⟩
  generalize hu : (w3.setCell ⟨pb, 8, none⟩ (.string ⟨(st.left.drop n).toArray⟩)).alloc (.cells #[.string ⟨path.toArray⟩, .string ⟨(st.left.take n).toArray⟩] 102) = u at *
  rw [hfbe] at hfb hus hne hl3 ⊢
  clear hu k1 k2 k3 f3 HB3 HP3 HB2 HP2 HB1 HP1 e0 hfbe
  have k5 := (row_cell P4.blk 5).trans (show _ = some (sl 3) from rfl)
  have f5 := row_free P4.blk 5
  have l0 := (row_cell hfb 0).trans (show _ = some (.string ⟨path.toArray⟩) from rfl)
  have l1 := (row_cell hfb 1).trans (show _ = some (.string ⟨(st.left.take n).toArray⟩) from rfl)
  obtain ⟨m, xs, hmx⟩ : ∃ m xs, prow { st with left := st.left.drop n } 3 = (m, xs) := ⟨_, _, rfl⟩
  have hm1 : m ≤ 2000 := by have := congrArg Prod.fst hmx; simp only [prow] at this; omega
  have own3 := P4.own 3
  rw [hmx] at own3
  have own3' : (u.drew).ownsRow (pb + 1) 102 2 (sl 3) m xs := own3
  have HP4 := hide P4; have HFB := hide hfb; have HB4 := hide B4; have HMX := hide hmx
  have hne2 : ¬ fb = pb := by omega
  have hne3 : ¬ pb = fb := by omega
  clear P4 hfb B4 hmx own3
  go_region_law (refine step_append_own rfl _ _ 63 rfl (pb + 1) 102 i0 _ 2 32 Tryz.underlying63 hi hz0 hz1 hz2 rfl (by decide) (sl 3) m xs rfl (own3'.alloc _) ⟨u.heap.size, 0, none⟩ 1 1 [_, _] (by simp [Act.eval]) rfl (cell_two_new _ _ _ _) (fun x hx => by simp at hx; rcases hx with rfl | rfl <;> rfl) (by unfold maxLen; omega) (by omega) (by simp; omega) ?_; intro v' w4 hown' hgrow4 hnil4 hblk4; obtain ⟨gv, cv, rfl⟩ := own_form hown' (by omega); have hk4 := PIn.kept (HP4.out.drew.alloc _) 3 hgrow4; have q5 := (row_cell hk4 5).trans (show _ = some (sl 3) from rfl); have g5 := row_free hk4 5; have hf4 := (hgrow4.block fb (by simp; omega) hne).trans ((Below.heap_alloc _ _ _ (by show fb < u.heap.size; omega)).trans HFB.out); have r1 := (row_cell hf4 1).trans (show _ = some (.string ⟨(st.left.take n).toArray⟩) from rfl))
  all_goals
    have hprow : prow { st with files := st.files ++ [(path, st.left.take n)], left := st.left.drop n } 3 = (m + 1, xs ++ [.string ⟨path.toArray⟩, .string ⟨(st.left.take n).toArray⟩]) := by
      have := HMX.out
      simp only [prow, Prod.mk.injEq] at this ⊢
      rw [← this.1, ← this.2]; simp [pairV, strV]
    have hown2 : w4.ownsRow (pb + 1) (pty 3) (psz 3) (.slice (some ⟨gv, 0, none⟩) (m + 1) cv) (prow { st with files := st.files ++ [(path, st.left.take n)], left := st.left.drop n } 3).1 (prow { st with files := st.files ++ [(path, st.left.take n)], left := st.left.drop n } 3).2 := by rw [hprow]; exact hown'
    have HP5 := hide (PIn.put (HP4.out.drew.alloc _) 3 hgrow4 hown2 hblk4 (fun j hj => by
      match j, hj with
      | 0, _ => rfl
      | 1, _ => rfl
      | 2, _ => rfl
      | 3, h => exact absurd rfl h
      | 4, _ => rfl
      | 5, _ => rfl) rfl)
    have HB5 : Hid (Below pb w (w4.setCell ⟨pb, 5, none⟩ (.slice (some ⟨gv, 0, none⟩) (m + 1) cv))) := hide (((show Below pb w w4 from ((HB4.out.drew.alloc (by show pb ≤ u.heap.size; omega) _).grown hgrow4 (by simp; omega) (fun k hk => by have := ((HP4.out.own 3).lt k hk).1; omega)))).setCell (p := ⟨pb, 5, none⟩) (Nat.le_refl pb) _)
    clear hown2 hprow hown' hgrow4 hnil4 hblk4 hk4 hf4
    go_wp2_with (first
      | (go_at_call 113; refine (short_any (st.left.take n) (by rw [List.length_take]; omega) K _ (by have := HB5.out.size; omega) (fun i hi => (HB5.out.cell (p := ⟨3, i, none⟩) (by show 3 < pb; omega)).trans (HK.out i hi))).mono ?_; rintro e w6 ⟨rfl, hb6⟩))
    go_ret
    exact ⟨rfl, _, HP5.out.below hb6, HB5.out.trans (hb6.mono (Nat.le_of_lt HP5.out.lt))⟩
end Go.Proofs.YtgdmgmklncmanaaGreatDoor
