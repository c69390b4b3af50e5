/- Of Ins: RefW2, RefW3, RefW4. -/
import Derived.Test.YtgdmgmklncmanaaGreatDoorIns4
import Derived.Deep.QuietTactic
import Derived.BigQuiet
import Derived.Test.YtgdmgmklncmanaaGreatDoorIns5
/- The walks over the document's own answer on versions: rows, values, signs. -/
namespace Go.Proofs.YtgdmgmklncmanaaGreatDoor
open Go.RowKit

/-- How many signs from the front on are such. -/
def rowN (d : Bool) (x : List UInt8) : Nat := (Ver.pre (fun c => Ver.isD c == d) x).length
theorem rowN_at {d : Bool} {x : List UInt8} {k : Nat} (ha : (x.take k).all (fun c => Ver.isD c == d) = true) (hf : ∀ h : k < x.length, (Ver.isD x[k] == d) = false) (hk : k ≤ x.length) : rowN d x = k := by
  have := (take_row (f := fun c => Ver.isD c == d) ha hf).1
  simp only [rowN, Ver.pre, this, List.length_take]; omega
theorem rowN_le (d : Bool) (x : List UInt8) : rowN d x ≤ x.length := pre_le _ _
theorem row_take (d : Bool) (x : List UInt8) : x.take (rowN d x) = Ver.pre (fun c => Ver.isD c == d) x := by
  have h : Ver.pre (fun c => Ver.isD c == d) x <+: x := List.takeWhile_prefix _
  exact (List.prefix_iff_eq_take.1 h).symm
theorem row_drop (d : Bool) (x : List UInt8) : x.drop (rowN d x) = Ver.suf (fun c => Ver.isD c == d) x := by
  have h : Ver.pre (fun c => Ver.isD c == d) x ++ Ver.suf (fun c => Ver.isD c == d) x = x := List.takeWhile_append_dropWhile
  have h2 : (Ver.pre (fun c => Ver.isD c == d) x ++ Ver.suf (fun c => Ver.isD c == d) x).drop (rowN d x) = Ver.suf (fun c => Ver.isD c == d) x := List.drop_left
  rwa [h] at h2
theorem pre_dig_eq : (fun c => Ver.isD c == true) = Ver.isD := by funext c; simp
theorem pre_not_eq : (fun c => Ver.isD c == false) = Ver.notD := by funext c; cases h : Ver.isD c <;> simp [Ver.notD, h]

theorem take_on {f : UInt8 → Bool} {x : List UInt8} {k : Nat} (h : k < x.length) (ha : (x.take k).all f = true) (hf : f x[k] = true) : (x.take (k + 1)).all f = true := by
  rw [List.take_succ_eq_append_getElem h, List.all_append, ha]; simpa using hf

set_option maxHeartbeats 400000 in
theorem rrow_any (x : List UInt8) (hx : x.length ≤ 24) (d : Bool) (w : World) :
    Calls Tryz.prog 37 #[.string ⟨x.toArray⟩, .bool d] w fun e w' => e = .returned (.int .i64 (rowN d x)) ∧ w' = w := by
  go_enter Tryz.func37, Tryz.ntmps37
  go_wp2_with fail
  go_loop [5] (fun i => ∃ k : Nat, k ≤ x.length ∧ i = .int .i64 k ∧ (x.take k).all (fun c => Ver.isD c == d) = true) (fun i => x.length - (intOf i).toNat)
  case atStart => exact ⟨0, Nat.zero_le _, rfl, rfl⟩
  case round =>
    obtain ⟨k, hk, rfl, ha⟩ := hrel
    have HA := hide ha; clear ha
    by_cases hlt : k < x.length
    · obtain ⟨c, hc, hcx⟩ : ∃ c, (⟨x.toArray⟩ : ByteArray)[k]'hlt = c ∧ x[k] = c := ⟨_, rfl, rfl⟩
      have HC := hide hcx; clear hcx
      by_cases hd : Ver.isD c = d
      · have hb : (!Ver.isD c == d) = false := by simp [hd]
        have HD := hide hd; clear hd
        go_wp2_with (go_at_call 35; refine (rdigit_any _ _).mono ?_; rintro e w' ⟨rfl, rfl⟩)
        go_round
        case rel => exact ⟨k + 1, by omega, by go_num, take_on hlt HA.out (by rw [HC.out, HD.out]; simp)⟩
        case measure => simp [intOf]; omega
      · have hb : (!Ver.isD c == d) = true := by simp [hd]
        have HD := hide hd; clear hd
        go_wp2_with (go_at_call 35; refine (rdigit_any _ _).mono ?_; rintro e w' ⟨rfl, rfl⟩)
        go_ret
        exact ⟨ret_int (by rw [rowN_at HA.out (fun _ => by rw [HC.out]; simpa using HD.out) hk]), rfl⟩
    · go_wp2_with fail
      go_ret
      have he : x.length = rowN d x := by rw [rowN_at HA.out (fun h => absurd h hlt) hk]; omega
      exact ⟨ret_int (by omega), rfl⟩
theorem trim_step {x : List UInt8} (h : x ≠ []) (hc : ((⟨x.toArray⟩ : ByteArray)[0]'(List.length_pos_iff.2 h)).toNat = 48) : Ver.trim x = Ver.trim (x.drop 1) := by
  cases x with
  | nil => exact absurd rfl h
  | cons c l =>
    have : c = 48 := UInt8.toNat_inj.1 hc
    subst this; simp [Ver.trim]
theorem trim_stop {x : List UInt8} (h : x ≠ []) (hc : ¬ ((⟨x.toArray⟩ : ByteArray)[0]'(List.length_pos_iff.2 h)).toNat = 48) : Ver.trim x = x := by
  cases x with
  | nil => exact absurd rfl h
  | cons c l =>
    have : ¬ c = 48 := fun e => hc (by subst e; rfl)
    simp [Ver.trim, this]

set_option maxHeartbeats 400000 in
theorem rvalue_any (x : List UInt8) (hx : x.length ≤ 24) (w : World) :
    Calls Tryz.prog 40 #[.string ⟨x.toArray⟩] w fun e w' => e = .returned (.string ⟨(Ver.trim x).toArray⟩) ∧ w' = w := by
  go_enter Tryz.func40, Tryz.ntmps40
  go_wp2_with fail
  go_loop [0] (fun a => ∃ y : List UInt8, y.length ≤ 24 ∧ a = .string ⟨y.toArray⟩ ∧ Ver.trim x = Ver.trim y) (fun a => strLen a)
  case atStart => exact ⟨x, hx, rfl, rfl⟩
  case round =>
    obtain ⟨y, hy, rfl, ht⟩ := hrel
    have HT := hide ht; clear ht
    by_cases h0 : y = []
    · subst h0
      go_wp2_with fail
      go_ret
      exact ⟨ret_str (by rw [HT.out]; rfl), rfl⟩
    · have hpos : 0 < y.length := List.length_pos_iff.2 h0
      have H0 := hide h0
      obtain ⟨c, hc⟩ : ∃ c, (⟨y.toArray⟩ : ByteArray)[0]'hpos = c := ⟨_, rfl⟩
      have HC := hide hc
      clear h0
      by_cases h48 : c.toNat = 48
      · have hb : ((c.toNat : Int) == 48) = true := by simp; omega
        have H48 := hide h48; clear h48
        have c1 : (1 : Int) ≤ y.length := by omega
        go_wp2_with fail
        rw [list_ext_drop y 1]
        exact ⟨⟨y.drop 1, by rw [List.length_drop]; omega, rfl, by rw [HT.out, trim_step H0.out (by rw [HC.out]; exact H48.out)]⟩, by rw [strLen_list, strLen_list, List.length_drop]; omega⟩
      · have hb : ((c.toNat : Int) == 48) = false := by simp; omega
        have H48 := hide h48; clear h48
        go_wp2_with fail
        go_ret
        exact ⟨ret_str (by rw [HT.out, trim_stop H0.out (by rw [HC.out]; exact H48.out)]), rfl⟩
def sgn (m : Bool) (c : UInt8) : Bool := if m = true then Ver.isM c else Ver.isR c
def sgnAll (m : Bool) (x : List UInt8) : Bool := decide (0 < (x.length : Int)) && x.all (sgn m)
theorem sgn_off {m : Bool} {x : List UInt8} {k : Nat} (h : k < x.length) (hf : sgn m x[k] = false) : sgnAll m x = false := by
  have : x.all (sgn m) = false := by rw [List.all_eq_false]; exact ⟨x[k], List.getElem_mem h, by simp [hf]⟩
  simp [sgnAll, this]
theorem sgn_end {m : Bool} {x : List UInt8} {k : Nat} (h : ¬ k < x.length) (ha : (x.take k).all (sgn m) = true) : sgnAll m x = decide (0 < (x.length : Int)) := by
  rw [List.take_of_length_le (by omega)] at ha
  simp [sgnAll, ha]

theorem no_way {n : Int} (h : ((n != 46) = false ∨ (n != 43) = false) ∨ (n != 126) = false) (h1 : ¬ n = 46) (h2 : ¬ n = 43) (h3 : ¬ n = 126) : False := by simp at h; omega

set_option maxHeartbeats 1000000 in
theorem rsigns_any (x : List UInt8) (hx : x.length ≤ 24) (m : Bool) (w : World) :
    Calls Tryz.prog 36 #[.string ⟨x.toArray⟩, .bool m] w fun e w' => e = .returned (.bool (sgnAll m x)) ∧ w' = w := by
  go_enter Tryz.func36, Tryz.ntmps36
  go_wp2_with fail
  go_loop [5] (fun i => ∃ k : Nat, k ≤ x.length ∧ i = .int .i64 k ∧ (x.take k).all (sgn m) = true) (fun i => x.length - (intOf i).toNat)
  case atStart => exact ⟨0, Nat.zero_le _, rfl, rfl⟩
  case round =>
    obtain ⟨k, hk, rfl, ha⟩ := hrel
    have HA := hide ha; clear ha
    by_cases hlt : k < x.length
    · obtain ⟨c, hc, hcx⟩ : ∃ c, (⟨x.toArray⟩ : ByteArray)[k]'hlt = c ∧ x[k] = c := ⟨_, rfl, rfl⟩
      have HC := hide hcx; clear hcx
      cases m
      all_goals
        go_wp2_with (first
          | (go_at_call 35; refine (rdigit_any _ _).mono ?_; rintro e w' ⟨rfl, rfl⟩)
          | (go_at_call 65; refine (rletter_any _ _).mono ?_; rintro e w' ⟨rfl, rfl⟩))
        all_goals first
          | exact (no_way ‹_› ‹_› ‹_› ‹_›).elim
          | exact ⟨⟨k + 1, by omega, by go_num, take_on hlt HA.out (by rw [HC.out]; simp [sgn, Ver.isM, Ver.isR, *]; done)⟩, by simp [intOf]; omega⟩
          | (go_ret; exact ⟨ret_bool (sgn_off hlt (by rw [HC.out]; simp [sgn, Ver.isM, Ver.isR, *]; done)).symm, rfl⟩)
    · have he := sgn_end hlt HA.out
      have HE := hide he; clear he
      go_wp2_with fail
      go_ret
      exact ⟨ret_bool (by rw [HE.out]; simp), rfl⟩
end Go.Proofs.YtgdmgmklncmanaaGreatDoor
/- The walk over the document's own answer on versions: two parts compared. -/
namespace Go.Proofs.YtgdmgmklncmanaaGreatDoor
open Go.RowKit

theorem rk_at {Y : List UInt8} (hz : ∀ c ∈ Y, c ≠ 0) (i : Nat) : rkn (atn Y i).toNat = Ver.rk (Y.drop i) := by
  by_cases h : i < Y.length
  · have e : atn Y i = Y[i] := by simp [atn, List.getD, h]
    rw [e, List.drop_eq_getElem_cons h]
    have hne := hz Y[i] (List.getElem_mem h)
    refine rkn_rkc fun h0 => hne ?_
    apply UInt8.toNat_inj.1; show Y[i].toNat = 0; omega
  · have e : atn Y i = 0 := by simp [atn, List.getD, h]
    rw [e, List.drop_of_length_le (by omega)]; rfl
/-- What a walk over one round asks of one text. -/
theorem rows_of (y : List UInt8) : ∃ Y y1 D y2 : List UInt8, Ver.pre Ver.notD y = Y ∧ Ver.suf Ver.notD y = y1 ∧ Ver.pre Ver.isD y1 = D ∧ Ver.suf Ver.isD y1 = y2 ∧
    rowN false y = Y.length ∧ rowN true y1 = D.length ∧ (⟨y.toArray⟩ : ByteArray).extract 0 Y.length = ⟨Y.toArray⟩ ∧ (⟨y.toArray⟩ : ByteArray).extract Y.length y.length = ⟨y1.toArray⟩ ∧
    (⟨y1.toArray⟩ : ByteArray).extract 0 D.length = ⟨D.toArray⟩ ∧ (⟨y1.toArray⟩ : ByteArray).extract D.length y1.length = ⟨y2.toArray⟩ ∧
    Y.length ≤ y.length ∧ y1.length ≤ y.length ∧ D.length ≤ y1.length ∧ y2.length ≤ y.length - 1 ∧ (∀ c ∈ Y, c ∈ y) ∧ (∀ c ∈ y2, c ∈ y) := by
  have a1 : rowN false y = (Ver.pre Ver.notD y).length := by rw [rowN, pre_not_eq]
  have a2 : rowN true (Ver.suf Ver.notD y) = (Ver.pre Ver.isD (Ver.suf Ver.notD y)).length := by rw [rowN, pre_dig_eq]
  refine ⟨_, _, _, _, rfl, rfl, rfl, rfl, a1, a2, ?_, ?_, ?_, ?_, pre_le _ _, suf_le _ _, pre_le _ _, suf_two y, fun c h => (List.takeWhile_prefix _).subset h, fun c h => (List.dropWhile_suffix _).subset ((List.dropWhile_suffix _).subset h)⟩
  · rw [← a1, list_ext_take, row_take, pre_not_eq]
  · rw [← a1, list_ext_drop, row_drop, pre_not_eq]
  · rw [← a2, list_ext_take, row_take, pre_dig_eq]
  · rw [← a2, list_ext_drop, row_drop, pre_dig_eq]
theorem rrow_is (x : List UInt8) (hx : x.length ≤ 24) (d : Bool) (n : Nat) (h : rowN d x = n) (w : World) :
    Calls Tryz.prog 37 #[.string ⟨x.toArray⟩, .bool d] w fun e w' => e = .returned (.int .i64 n) ∧ w' = w := by
  subst h; exact rrow_any x hx d w

theorem nums_1 {D E : List UInt8} (h : Ver.cmpI (Ver.trim D).length (Ver.trim E).length ≠ 0) : Ver.nums D E = Ver.cmpI (Ver.trim D).length (Ver.trim E).length := by
  rw [Ver.nums, Ver.or3, if_neg h]
theorem nums_2 {D E : List UInt8} (h : Ver.cmpI (Ver.trim D).length (Ver.trim E).length = 0) : Ver.nums D E = Ver.lexb 25 (Ver.trim D) (Ver.trim E) := by
  rw [Ver.nums, Ver.or3, if_pos h]

theorem end_1 {D E : List UInt8} {P R : Int} (h : P = Ver.or3 (Ver.nums D E) R) (h1 : (Ver.cmpI (Ver.trim D).length (Ver.trim E).length != 0) = true) : Ver.cmpI (Ver.trim D).length (Ver.trim E).length = P := by
  have h1' := bne_iff_ne.1 h1
  rw [h, nums_1 h1', Ver.or3, if_neg h1']
theorem lex_trim {D E : List UInt8} (lD : D.length ≤ 24) (lE : E.length ≤ 24) : Ver.lexb 25 (Ver.trim D) (Ver.trim E) = if Op.bytesLess (Ver.trim D) (Ver.trim E) = true then -1 else if (Ver.trim D == Ver.trim E) = true then 0 else 1 :=
  lexb_eq 25 _ _ (by have := trim_le D; omega) (by have := trim_le E; omega)
theorem end_2 {D E : List UInt8} {P R : Int} (lD : D.length ≤ 24) (lE : E.length ≤ 24) (h : P = Ver.or3 (Ver.nums D E) R) (h1 : (Ver.cmpI (Ver.trim D).length (Ver.trim E).length != 0) = false) (h2 : Op.bytesLess (Ver.trim D) (Ver.trim E) = true) : -1 = P := by
  have h1' := bne_eq_false_iff_eq.1 h1
  rw [h, nums_2 h1', ← less_1 (lex_trim lD lE) h2]; simp [Ver.or3]
theorem end_3 {D E : List UInt8} {P R : Int} (lD : D.length ≤ 24) (lE : E.length ≤ 24) (h : P = Ver.or3 (Ver.nums D E) R) (h1 : (Ver.cmpI (Ver.trim D).length (Ver.trim E).length != 0) = false) (h2 : Op.bytesLess (Ver.trim D) (Ver.trim E) = false) (h3 : (!Ver.trim D == Ver.trim E) = true) : 1 = P := by
  have h1' := bne_eq_false_iff_eq.1 h1
  rw [h, nums_2 h1', ← less_2 (lex_trim lD lE) h2 h3]; simp [Ver.or3]
theorem end_4 {D E : List UInt8} {P R : Int} (lD : D.length ≤ 24) (lE : E.length ≤ 24) (h : P = Ver.or3 (Ver.nums D E) R) (h1 : (Ver.cmpI (Ver.trim D).length (Ver.trim E).length != 0) = false) (h2 : Op.bytesLess (Ver.trim D) (Ver.trim E) = false) (h3 : (!Ver.trim D == Ver.trim E) = false) : P = R := by
  have h1' := bne_eq_false_iff_eq.1 h1
  rw [h, nums_2 h1', ← less_3 (lex_trim lD lE) h2 h3]; simp [Ver.or3]

set_option maxRecDepth 100000 in
set_option maxHeartbeats 2000000 in
theorem rparts_any (a b : List UInt8) (ha : a.length ≤ 24) (hb : b.length ≤ 24) (za : ∀ c ∈ a, c ≠ 0) (zb : ∀ c ∈ b, c ≠ 0) (w : World) :
    Calls Tryz.prog 17 #[.string ⟨a.toArray⟩, .string ⟨b.toArray⟩] w fun e w' => e = .returned (.int .i64 (Ver.parts 25 a b)) ∧ Below w.heap.size w w' := by
  have ZA := hide za; have ZB := hide zb; clear za zb
  go_enter Tryz.func17, Tryz.ntmps17
  go_wp2_with fail
  go_loopw [0, 1] (fun p q wr => ∃ (k : Nat) (y z : List UInt8), k ≤ 24 ∧ y.length ≤ 24 - k ∧ z.length ≤ 24 - k ∧ p = .string ⟨y.toArray⟩ ∧ q = .string ⟨z.toArray⟩ ∧ Hid (∀ c ∈ y, c ≠ 0) ∧ Hid (∀ c ∈ z, c ≠ 0) ∧ Ver.parts 25 a b = Ver.parts (25 - k) y z ∧ Below w.heap.size w wr)
    (fun p q _ => strLen p + strLen q)
  case atStart => exact ⟨0, a, b, Nat.zero_le _, ha, hb, rfl, rfl, ZA, ZB, rfl, Below.refl _ _⟩
  case round =>
    obtain ⟨k, y, z, hk, hy, hz, rfl, rfl, zy, zz, hs, hbel⟩ := hrel
    have HB := hide hbel; clear hbel
    have HS := hide hs; clear hs ZA ZB ha hb
    have h24y : y.length ≤ 24 := by omega
    have h24z : z.length ≤ 24 := by omega
    by_cases hne : y.length = 0 ∧ z.length = 0
    · obtain ⟨h1, h2⟩ := hne
      have h1' := List.eq_nil_of_length_eq_zero h1
      have h2' := List.eq_nil_of_length_eq_zero h2
      subst h1' h2'
      go_wp2_with fail
      go_ret
      exact ⟨ret_int (by rw [HS.out, Ver.parts_nil]), HB.out⟩
    · have hk' : k ≤ 23 := by omega
      have hpos : 0 < y.length + z.length := by omega
      clear hne
      obtain ⟨Y, y1, D, y2, eY, ey1, eD, ey2, r1, r2, s1, s2, s3, s4, l1, l2, l3, l4, m1, m2⟩ := rows_of y
      obtain ⟨Z, z1, E, z2, eZ, ez1, eE, ez2, t1, t2, u1, u2, u3, u4, v1, v2, v3, v4, n1, n2⟩ := rows_of z
      have zY : Hid (∀ c ∈ Y, c ≠ 0) := hide fun c h => zy.out c (m1 c h)
      have zZ : Hid (∀ c ∈ Z, c ≠ 0) := hide fun c h => zz.out c (n1 c h)
      have zy2 : Hid (∀ c ∈ y2, c ≠ 0) := hide fun c h => zy.out c (m2 c h)
      have zz2 : Hid (∀ c ∈ z2, c ≠ 0) := hide fun c h => zz.out c (n2 c h)
      have hp : Ver.parts (25 - k) y z = Ver.or3 (Ver.signs 25 Y Z) (Ver.or3 (Ver.nums D E) (Ver.parts (25 - (k + 1)) y2 z2)) := by
        rw [show 25 - k = (25 - (k + 1)) + 1 from by omega, Ver.parts, eY, eZ, ey1, ez1, eD, eE, ey2, ez2]
      have HP := hide (HS.out.trans hp)
      clear hp HS zy zz eY ey1 eD ey2 eZ ez1 eE ez2 m1 m2 n1 n2
      have R1 := hide r1; have R2 := hide r2; have T1 := hide t1; have T2 := hide t2
      clear r1 r2 t1 t2
      have lY : Y.length ≤ 24 := by omega
      have lZ : Z.length ≤ 24 := by omega
      have ly1 : y1.length ≤ 24 := by omega
      have lz1 : z1.length ≤ 24 := by omega
      have lD : D.length ≤ 24 := by omega
      have lE : E.length ≤ 24 := by omega
      have htest : 0 < y.length ∨ (¬ 0 < y.length ∧ 0 < z.length) := by omega
      rcases htest with hy0 | ⟨hy0, hz0⟩
      all_goals
        go_wp2_with (first
          | (go_at_call_of 37 (Value.string ⟨y.toArray⟩); refine (rrow_is y h24y false _ R1.out _).mono ?_; rintro e w' ⟨rfl, rfl⟩)
          | (go_at_call_of 37 (Value.string ⟨z.toArray⟩); refine (rrow_is z h24z false _ T1.out _).mono ?_; rintro e w' ⟨rfl, rfl⟩))
        go_loopw [7] (fun q wr => ∃ i : Nat, i ≤ 24 ∧ q = .int .i64 i ∧ Ver.signs 25 Y Z = Ver.signs (25 - i) (Y.drop i) (Z.drop i) ∧ Below w.heap.size w wr) (fun q _ => 25 - (intOf q).toNat)
        case atStart => exact ⟨0, Nat.zero_le _, rfl, rfl, HB.out⟩
        case round =>
          obtain ⟨i, hi, rfl, hsi, hbel⟩ := hrel
          have HI := hide hsi; clear hsi
          replace HB := hide hbel; clear hbel
          have q1 := rk_at zY.out i
          have q2 := rk_at zZ.out i
          have c1 : (Y.length : Int) ≤ y.length := by omega
          have c2 : (Z.length : Int) ≤ z.length := by omega
          by_cases hin : i < Y.length ∨ i < Z.length
          · have hi23 : i ≤ 23 := by omega
            have hcase : i < Y.length ∨ (¬ i < Y.length ∧ i < Z.length) := by omega
            clear hin
            by_cases hc : Ver.cmpI (Ver.rk (Y.drop i)) (Ver.rk (Z.drop i)) = 0
            · have HC := hide hc
              have hc' : (Ver.cmpI (Ver.rk (Y.drop i)) (Ver.rk (Z.drop i)) != 0) = false := bne_eq_false_iff_eq.2 hc
              clear hc
              rcases hcase with h1 | ⟨h1, h2⟩
              all_goals
                go_wp2_with fail
                go_quiet ((first | (go_at_call 39; exact Calls.quiet_of_same (rat_any _ _ _)) | (go_at_call 38; exact Calls.quiet_of_same (rrank_any _ _)) | (go_at_call 16; exact Calls.quiet_of_same (rless_any _ _ _))))
                go_wp2_with fail
                exact ⟨⟨i + 1, by omega, by go_num, by rw [HI.out, signs_on (by omega) HC.out], below_drewN HB.out _⟩, by simp [intOf]; omega⟩
            · have HC := hide hc
              have hc' : (Ver.cmpI (Ver.rk (Y.drop i)) (Ver.rk (Z.drop i)) != 0) = true := bne_iff_ne.2 hc
              clear hc
              rcases hcase with h1 | ⟨h1, h2⟩
              all_goals
                go_wp2_with fail
                go_quiet ((first | (go_at_call 39; exact Calls.quiet_of_same (rat_any _ _ _)) | (go_at_call 38; exact Calls.quiet_of_same (rrank_any _ _)) | (go_at_call 16; exact Calls.quiet_of_same (rless_any _ _ _))))
                go_wp2_with fail
                go_ret
                have hfin : Ver.parts 25 a b = Ver.cmpI (Ver.rk (Y.drop i)) (Ver.rk (Z.drop i)) := by
                  rw [HP.out, HI.out, signs_off (by omega) HC.out, Ver.or3, if_neg HC.out]
                exact ⟨ret_int hfin.symm, below_drewN HB.out _⟩
          · have n1 : ¬ (i : Int) < Y.length := by omega
            have n2 : ¬ (i : Int) < Z.length := by omega
            have hs0 : Ver.signs 25 Y Z = 0 := by
              rw [HI.out, List.drop_of_length_le (by omega), List.drop_of_length_le (by omega), Ver.signs_nil]
            have hp : Ver.parts 25 a b = Ver.or3 (Ver.nums D E) (Ver.parts (25 - (k + 1)) y2 z2) := by
              rw [HP.out, hs0, Ver.or3, if_pos rfl]
            have HQ := hide hp
            clear hp hs0 hin q1 q2
            have d1 : (D.length : Int) ≤ y1.length := by omega
            have d2 : (E.length : Int) ≤ z1.length := by omega
            go_wp2_with (first
              | (go_at_call_of 37 (Value.string ⟨y1.toArray⟩); refine (rrow_is y1 ly1 true _ R2.out _).mono ?_; rintro e w' ⟨rfl, rfl⟩)
              | (go_at_call_of 37 (Value.string ⟨z1.toArray⟩); refine (rrow_is z1 lz1 true _ T2.out _).mono ?_; rintro e w' ⟨rfl, rfl⟩)
              | (go_at_call_of 40 (Value.string ⟨D.toArray⟩); refine (rvalue_any D lD _).mono ?_; rintro e w' ⟨rfl, rfl⟩)
              | (go_at_call_of 40 (Value.string ⟨E.toArray⟩); refine (rvalue_any E lE _).mono ?_; rintro e w' ⟨rfl, rfl⟩)
              | (go_at_call 16; refine (rless_any _ _ _).mono ?_; rintro e w' ⟨rfl, rfl⟩))
            all_goals first
              | (go_ret; exact ⟨ret_int (end_1 HQ.out ‹_›), HB.out⟩)
              | (go_ret; exact ⟨ret_int (end_2 lD lE HQ.out ‹_› ‹_›), HB.out⟩)
              | (go_ret; exact ⟨ret_int (end_3 lD lE HQ.out ‹_› ‹_› ‹_›), HB.out⟩)
              | exact ⟨⟨k + 1, y2, z2, by omega, len_on l4 hy, len_on v4 hz, rfl, rfl, zy2, zz2, end_4 lD lE HQ.out ‹_› ‹_› ‹_›, HB.out⟩, strLen_lt l4 v4 hpos⟩
end Go.Proofs.YtgdmgmklncmanaaGreatDoor
/- The walk over the document's own answer on versions: a version taken apart. -/
namespace Go.Proofs.YtgdmgmklncmanaaGreatDoor
open Go.RowKit

/-- The version that the call gathers lies in its second block, the answer's place in its first; nothing older has turned. -/
def VAt (w W : World) (E : Int) (M R : List UInt8) : Prop :=
  W.cell? ⟨w.heap.size + 1, 0, none⟩ = some (.int .i64 E) ∧ W.cell? ⟨w.heap.size + 1, 1, none⟩ = some (.string ⟨M.toArray⟩) ∧ W.cell? ⟨w.heap.size + 1, 2, none⟩ = some (.string ⟨R.toArray⟩) ∧
  W.cell? ⟨w.heap.size, 0, none⟩ = some (.int .i64 0) ∧ W.cell? ⟨w.heap.size, 1, none⟩ = some (.string ⟨#[]⟩) ∧ W.cell? ⟨w.heap.size, 2, none⟩ = some (.string ⟨#[]⟩) ∧
  W.frozen? ⟨w.heap.size + 1, 0, none⟩ = false ∧ W.frozen? ⟨w.heap.size + 1, 1, none⟩ = false ∧ W.frozen? ⟨w.heap.size + 1, 2, none⟩ = false ∧
  W.frozen? ⟨w.heap.size, 0, none⟩ = false ∧ W.frozen? ⟨w.heap.size, 1, none⟩ = false ∧ W.frozen? ⟨w.heap.size, 2, none⟩ = false ∧ Below w.heap.size w W
theorem vat_start (w : World) (t : TypeId) : VAt w ((w.alloc (.cells #[.int .i64 0, .string ⟨#[]⟩, .string ⟨#[]⟩] t)).alloc (.cells #[.int .i64 0, .string ⟨#[]⟩, .string ⟨#[48]⟩] t)) 0 [] [48] := by
  refine ⟨?_, ?_, ?_, ?_, ?_, ?_, ?_, ?_, ?_, ?_, ?_, ?_, ((Below.refl _ _).alloc (Nat.le_refl _) _).alloc (by simp) _⟩ <;> simp [go_sem]
theorem vat_drew {w W : World} {E : Int} {M R : List UInt8} (h : VAt w W E M R) (n : Nat) : VAt w (W.drewN n) E M R := by
  obtain ⟨a1, a2, a3, a4, a5, a6, a7, a8, a9, b1, b2, b3, b4⟩ := h
  have hc : ∀ a, (W.drewN n).cell? a = W.cell? a := fun a => rfl
  exact ⟨a1, a2, a3, a4, a5, a6, a7, a8, a9, b1, b2, b3, below_drewN b4 n⟩
theorem vat_E {w W : World} {E : Int} {M R : List UInt8} (h : VAt w W E M R) (E' : Int) : VAt w (W.setCell ⟨w.heap.size + 1, 0, none⟩ (.int .i64 E')) E' M R := by
  obtain ⟨a1, a2, a3, a4, a5, a6, a7, a8, a9, b1, b2, b3, b4⟩ := h
  refine ⟨World.cell?_setCell_same _ _ _ a1, ?_, ?_, ?_, ?_, ?_, ?_, ?_, ?_, ?_, ?_, ?_, b4.setCell (by simp) _⟩
  all_goals first
    | (rw [World.cell?_setCell_other _ _ _ _ (by simp)]; assumption)
    | (rw [World.frozen?_setCell]; assumption)
theorem vat_M {w W : World} {E : Int} {M R : List UInt8} (h : VAt w W E M R) (M' : List UInt8) : VAt w (W.setCell ⟨w.heap.size + 1, 1, none⟩ (.string ⟨M'.toArray⟩)) E M' R := by
  obtain ⟨a1, a2, a3, a4, a5, a6, a7, a8, a9, b1, b2, b3, b4⟩ := h
  refine ⟨?_, World.cell?_setCell_same _ _ _ a2, ?_, ?_, ?_, ?_, ?_, ?_, ?_, ?_, ?_, ?_, b4.setCell (by simp) _⟩
  all_goals first
    | (rw [World.cell?_setCell_other _ _ _ _ (by simp)]; assumption)
    | (rw [World.frozen?_setCell]; assumption)
theorem vat_R {w W : World} {E : Int} {M R : List UInt8} (h : VAt w W E M R) (R' : List UInt8) : VAt w (W.setCell ⟨w.heap.size + 1, 2, none⟩ (.string ⟨R'.toArray⟩)) E M R' := by
  obtain ⟨a1, a2, a3, a4, a5, a6, a7, a8, a9, b1, b2, b3, b4⟩ := h
  refine ⟨?_, ?_, World.cell?_setCell_same _ _ _ a3, ?_, ?_, ?_, ?_, ?_, ?_, ?_, ?_, ?_, b4.setCell (by simp) _⟩
  all_goals first
    | (rw [World.cell?_setCell_other _ _ _ _ (by simp)]; assumption)
    | (rw [World.frozen?_setCell]; assumption)

/-- What the call hands back. -/
def VPost (x : List UInt8) (w : World) : Ending → World → Prop := fun e w' => ∃ (E : Int) (M R : List UInt8) (ok : Bool),
  e = .returned (.tuple #[.agg #[.int .i64 E, .string ⟨M.toArray⟩, .string ⟨R.toArray⟩], .bool ok]) ∧ ok = Ver.fine x ∧ Below w.heap.size w w' ∧
    (ok = true → E = Ver.val (Ver.split3 x).e ∧ M = (Ver.split3 x).m ∧ R = (Ver.split3 x).r)

/-! ### What the cuts come to -/
theorem fine_of {x El m M R : List UInt8} (h0 : 1 ≤ x.length) (h1 : x.length ≤ 24) (hC : Ver.cutC x = (El, m)) (hE : Ver.okE El = true) (hM : Ver.cutM m = (M, R)) :
    Ver.fine x = (Ver.okM M && Ver.okR R) ∧ Ver.split3 x = ⟨El, M, R⟩ := by
  have e : Ver.split3 x = ⟨El, M, R⟩ := by simp only [Ver.split3, hC, hM]
  exact ⟨by simp [Ver.fine, e, h0, h1, hE], e⟩
theorem fine_not {x El m : List UInt8} (hC : Ver.cutC x = (El, m)) (hE : Ver.okE El = false) : Ver.fine x = false := by
  have e : (Ver.split3 x).e = El := by simp only [Ver.split3, hC]
  simp [Ver.fine, e, hE]
theorem all_ne {x : List UInt8} {d : UInt8} (h : x.all (fun c => c != d) = true) : ∀ c ∈ x, c ≠ d := by
  intro c hc; have := List.all_eq_true.1 h c hc; simpa using this
theorem cutC_at {x : List UInt8} {k : Nat} (hk : k < x.length) (ha : (x.take k).all (fun c => c != 58) = true) (hx : x[k] = 58) : Ver.cutC x = (x.take k, x.drop (k + 1)) := by
  have h := take_row (f := fun c => c != 58) ha (k := k) (l := x) (fun _ => by rw [hx]; rfl)
  have hc : x.contains 58 = true := by
    rw [List.contains_iff_mem]; exact hx ▸ List.getElem_mem hk
  simp only [Ver.cutC, hc, if_true, h.1, h.2, List.drop_drop]
theorem cutC_no {x : List UInt8} (ha : x.all (fun c => c != 58) = true) : Ver.cutC x = ([48], x) := by
  have hc : x.contains 58 = false := by simp; intro hm; exact all_ne ha 58 hm rfl
  simp only [Ver.cutC, hc]; rfl
theorem cutM_at {m : List UInt8} {k : Nat} (hk : k < m.length) (ha : (m.drop (k + 1)).all (fun c => c != 45) = true) (hx : m[k] = 45) : Ver.cutM m = (m.take k, m.drop (k + 1)) := by
  have e : m = m.take k ++ 45 :: m.drop (k + 1) := by
    conv => lhs; rw [← List.take_append_drop k m, List.drop_eq_getElem_cons hk, hx]
  conv => lhs; rw [e]
  exact Ver.cutM_split _ _ (all_ne ha)
theorem cutM_no {m : List UInt8} (ha : m.all (fun c => c != 45) = true) : Ver.cutM m = (m, [48]) := Ver.cutM_none m (all_ne ha)
theorem sgn_true : sgn true = Ver.isM := by funext c; simp [sgn]
theorem sgn_false : sgn false = Ver.isR := by funext c; simp [sgn]
theorem okM_of (M : List UInt8) (h : M ≠ []) : Ver.okM M = (sgnAll true M && Ver.isD (M.head h)) := by
  cases M with
  | nil => exact absurd rfl h
  | cons c l => simp [Ver.okM, sgnAll, Ver.allL, sgn_true, Bool.and_comm]
theorem okR_of (R : List UInt8) : Ver.okR R = sgnAll false R := by
  cases R with
  | nil => rfl
  | cons c l => simp [Ver.okR, sgnAll, Ver.allL, sgn_false]
theorem sgn_pos {m : Bool} {x : List UInt8} (h : sgnAll m x = true) : x ≠ [] := by
  rintro rfl; simp [sgnAll] at h

set_option maxHeartbeats 400000 in
theorem rver_short (x : List UInt8) (h : x.length = 0 ∨ 24 < x.length) (w : World) :
    Calls Tryz.prog 15 #[.string ⟨x.toArray⟩] w (VPost x w) := by
  have hf : Ver.fine x = false := by
    rcases h with h | h
    · have : ¬ 1 ≤ x.length := by omega
      simp [Ver.fine, this]
    · have : ¬ x.length ≤ 24 := by omega
      simp [Ver.fine, this]
  rcases h with h | h
  · have hs : (x.length : Int) < 1 := by omega
    clear h
    go_enter Tryz.func15, Tryz.ntmps15
    go_wp2
    exact bodyPost_ret (v := .tuple #[.agg #[.int .i64 0, .string ⟨#[]⟩, .string ⟨#[48]⟩], .bool false]) (by simp [results, Tryz.results15, go_sem]) rfl
      ⟨0, [], [48], false, rfl, hf.symm, ((Below.refl _ _).alloc (Nat.le_refl _) _).alloc (by simp) _, fun h => by cases h⟩
  · have hs : ¬ (x.length : Int) < 1 := by omega
    have hs' : (24 : Int) < x.length := by omega
    clear h
    go_enter Tryz.func15, Tryz.ntmps15
    go_wp2
    exact bodyPost_ret (v := .tuple #[.agg #[.int .i64 0, .string ⟨#[]⟩, .string ⟨#[48]⟩], .bool false]) (by simp [results, Tryz.results15, go_sem]) rfl
      ⟨0, [], [48], false, rfl, hf.symm, ((Below.refl _ _).alloc (Nat.le_refl _) _).alloc (by simp) _, fun h => by cases h⟩
end Go.Proofs.YtgdmgmklncmanaaGreatDoor
