/- The walk over the document's own answer on versions: two parts compared. -/
import Derived.Test.YtgdmgmklncmanaaGreatDoorRefW2
import Derived.Deep.QuietTactic
import Derived.BigQuiet
namespace Go.Proofs.YtgdmgmklncmanaaGreatDoor
open Go.RowKit

theorem rk_at {Y : List UInt8} (hz : ∀ c ∈ Y, c ≠ 0) (i : Nat) : rkn (atn Y i).toNat = Ver.rk (Y.drop i) := by
  by_cases h : i < Y.length
  · have e : atn Y i = Y[i] := by simp [atn, List.getD, h]
    rw [e, List.drop_eq_getElem_cons h]
    have hne := hz Y[i] (List.getElem_mem h)
    refine rkn_rkc fun h0 => hne ?_
    apply UInt8.toNat_inj.1; show Y[i].toNat = 0; omega
  · have e : atn Y i = 0 := by simp [atn, List.getD, h]
    rw [e, List.drop_of_length_le (by omega)]; rfl
/-- What a walk over one round asks of one text. -/
theorem rows_of (y : List UInt8) : ∃ Y y1 D y2 : List UInt8, Ver.pre Ver.notD y = Y ∧ Ver.suf Ver.notD y = y1 ∧ Ver.pre Ver.isD y1 = D ∧ Ver.suf Ver.isD y1 = y2 ∧
    rowN false y = Y.length ∧ rowN true y1 = D.length ∧ (⟨y.toArray⟩ : ByteArray).extract 0 Y.length = ⟨Y.toArray⟩ ∧ (⟨y.toArray⟩ : ByteArray).extract Y.length y.length = ⟨y1.toArray⟩ ∧
    (⟨y1.toArray⟩ : ByteArray).extract 0 D.length = ⟨D.toArray⟩ ∧ (⟨y1.toArray⟩ : ByteArray).extract D.length y1.length = ⟨y2.toArray⟩ ∧
    Y.length ≤ y.length ∧ y1.length ≤ y.length ∧ D.length ≤ y1.length ∧ y2.length ≤ y.length - 1 ∧ (∀ c ∈ Y, c ∈ y) ∧ (∀ c ∈ y2, c ∈ y) := by
  have a1 : rowN false y = (Ver.pre Ver.notD y).length := by rw [rowN, pre_not_eq]
  have a2 : rowN true (Ver.suf Ver.notD y) = (Ver.pre Ver.isD (Ver.suf Ver.notD y)).length := by rw [rowN, pre_dig_eq]
  refine ⟨_, _, _, _, rfl, rfl, rfl, rfl, a1, a2, ?_, ?_, ?_, ?_, pre_le _ _, suf_le _ _, pre_le _ _, suf_two y, fun c h => (List.takeWhile_prefix _).subset h, fun c h => (List.dropWhile_suffix _).subset ((List.dropWhile_suffix _).subset h)⟩
  · rw [← a1, list_ext_take, row_take, pre_not_eq]
  · rw [← a1, list_ext_drop, row_drop, pre_not_eq]
  · rw [← a2, list_ext_take, row_take, pre_dig_eq]
  · rw [← a2, list_ext_drop, row_drop, pre_dig_eq]
theorem rrow_is (x : List UInt8) (hx : x.length ≤ 24) (d : Bool) (n : Nat) (h : rowN d x = n) (w : World) :
    Calls Tryz.prog 37 #[.string ⟨x.toArray⟩, .bool d] w fun e w' => e = .returned (.int .i64 n) ∧ w' = w := by
  subst h; exact rrow_any x hx d w

theorem nums_1 {D E : List UInt8} (h : Ver.cmpI (Ver.trim D).length (Ver.trim E).length ≠ 0) : Ver.nums D E = Ver.cmpI (Ver.trim D).length (Ver.trim E).length := by
  rw [Ver.nums, Ver.or3, if_neg h]
theorem nums_2 {D E : List UInt8} (h : Ver.cmpI (Ver.trim D).length (Ver.trim E).length = 0) : Ver.nums D E = Ver.lexb 25 (Ver.trim D) (Ver.trim E) := by
  rw [Ver.nums, Ver.or3, if_pos h]

theorem end_1 {D E : List UInt8} {P R : Int} (h : P = Ver.or3 (Ver.nums D E) R) (h1 : (Ver.cmpI (Ver.trim D).length (Ver.trim E).length != 0) = true) : Ver.cmpI (Ver.trim D).length (Ver.trim E).length = P := by
  have h1' := bne_iff_ne.1 h1
  rw [h, nums_1 h1', Ver.or3, if_neg h1']
theorem lex_trim {D E : List UInt8} (lD : D.length ≤ 24) (lE : E.length ≤ 24) : Ver.lexb 25 (Ver.trim D) (Ver.trim E) = if Op.bytesLess (Ver.trim D) (Ver.trim E) = true then -1 else if (Ver.trim D == Ver.trim E) = true then 0 else 1 :=
  lexb_eq 25 _ _ (by have := trim_le D; omega) (by have := trim_le E; omega)
theorem end_2 {D E : List UInt8} {P R : Int} (lD : D.length ≤ 24) (lE : E.length ≤ 24) (h : P = Ver.or3 (Ver.nums D E) R) (h1 : (Ver.cmpI (Ver.trim D).length (Ver.trim E).length != 0) = false) (h2 : Op.bytesLess (Ver.trim D) (Ver.trim E) = true) : -1 = P := by
  have h1' := bne_eq_false_iff_eq.1 h1
  rw [h, nums_2 h1', ← less_1 (lex_trim lD lE) h2]; simp [Ver.or3]
theorem end_3 {D E : List UInt8} {P R : Int} (lD : D.length ≤ 24) (lE : E.length ≤ 24) (h : P = Ver.or3 (Ver.nums D E) R) (h1 : (Ver.cmpI (Ver.trim D).length (Ver.trim E).length != 0) = false) (h2 : Op.bytesLess (Ver.trim D) (Ver.trim E) = false) (h3 : (!Ver.trim D == Ver.trim E) = true) : 1 = P := by
  have h1' := bne_eq_false_iff_eq.1 h1
  rw [h, nums_2 h1', ← less_2 (lex_trim lD lE) h2 h3]; simp [Ver.or3]
theorem end_4 {D E : List UInt8} {P R : Int} (lD : D.length ≤ 24) (lE : E.length ≤ 24) (h : P = Ver.or3 (Ver.nums D E) R) (h1 : (Ver.cmpI (Ver.trim D).length (Ver.trim E).length != 0) = false) (h2 : Op.bytesLess (Ver.trim D) (Ver.trim E) = false) (h3 : (!Ver.trim D == Ver.trim E) = false) : P = R := by
  have h1' := bne_eq_false_iff_eq.1 h1
  rw [h, nums_2 h1', ← less_3 (lex_trim lD lE) h2 h3]; simp [Ver.or3]

set_option maxRecDepth 100000 in
set_option maxHeartbeats 2000000 in
theorem rparts_any (a b : List UInt8) (ha : a.length ≤ 24) (hb : b.length ≤ 24) (za : ∀ c ∈ a, c ≠ 0) (zb : ∀ c ∈ b, c ≠ 0) (w : World) :
    Calls Tryz.prog 17 #[.string ⟨a.toArray⟩, .string ⟨b.toArray⟩] w fun e w' => e = .returned (.int .i64 (Ver.parts 25 a b)) ∧ Below w.heap.size w w' := by
  have ZA := hide za; have ZB := hide zb; clear za zb
  go_enter Tryz.func17, Tryz.ntmps17
  go_wp2_with fail
  go_loopw [0, 1] (fun p q wr => ∃ (k : Nat) (y z : List UInt8), k ≤ 24 ∧ y.length ≤ 24 - k ∧ z.length ≤ 24 - k ∧ p = .string ⟨y.toArray⟩ ∧ q = .string ⟨z.toArray⟩ ∧ Hid (∀ c ∈ y, c ≠ 0) ∧ Hid (∀ c ∈ z, c ≠ 0) ∧ Ver.parts 25 a b = Ver.parts (25 - k) y z ∧ Below w.heap.size w wr)
    (fun p q _ => strLen p + strLen q)
  case atStart => exact ⟨0, a, b, Nat.zero_le _, ha, hb, rfl, rfl, ZA, ZB, rfl, Below.refl _ _⟩
  case round =>
    obtain ⟨k, y, z, hk, hy, hz, rfl, rfl, zy, zz, hs, hbel⟩ := hrel
    have HB := hide hbel; clear hbel
    have HS := hide hs; clear hs ZA ZB ha hb
    have h24y : y.length ≤ 24 := by omega
    have h24z : z.length ≤ 24 := by omega
    by_cases hne : y.length = 0 ∧ z.length = 0
    · obtain ⟨h1, h2⟩ := hne
      have h1' := List.eq_nil_of_length_eq_zero h1
      have h2' := List.eq_nil_of_length_eq_zero h2
      subst h1' h2'
      go_wp2_with fail
      go_ret
      exact ⟨ret_int (by rw [HS.out, Ver.parts_nil]), HB.out⟩
    · have hk' : k ≤ 23 := by omega
      have hpos : 0 < y.length + z.length := by omega
      clear hne
      obtain ⟨Y, y1, D, y2, eY, ey1, eD, ey2, r1, r2, s1, s2, s3, s4, l1, l2, l3, l4, m1, m2⟩ := rows_of y
      obtain ⟨Z, z1, E, z2, eZ, ez1, eE, ez2, t1, t2, u1, u2, u3, u4, v1, v2, v3, v4, n1, n2⟩ := rows_of z
      have zY : Hid (∀ c ∈ Y, c ≠ 0) := hide fun c h => zy.out c (m1 c h)
      have zZ : Hid (∀ c ∈ Z, c ≠ 0) := hide fun c h => zz.out c (n1 c h)
      have zy2 : Hid (∀ c ∈ y2, c ≠ 0) := hide fun c h => zy.out c (m2 c h)
      have zz2 : Hid (∀ c ∈ z2, c ≠ 0) := hide fun c h => zz.out c (n2 c h)
      have hp : Ver.parts (25 - k) y z = Ver.or3 (Ver.signs 25 Y Z) (Ver.or3 (Ver.nums D E) (Ver.parts (25 - (k + 1)) y2 z2)) := by
        rw [show 25 - k = (25 - (k + 1)) + 1 from by omega, Ver.parts, eY, eZ, ey1, ez1, eD, eE, ey2, ez2]
      have HP := hide (HS.out.trans hp)
      clear hp HS zy zz eY ey1 eD ey2 eZ ez1 eE ez2 m1 m2 n1 n2
      have R1 := hide r1; have R2 := hide r2; have T1 := hide t1; have T2 := hide t2
      clear r1 r2 t1 t2
      have lY : Y.length ≤ 24 := by omega
      have lZ : Z.length ≤ 24 := by omega
      have ly1 : y1.length ≤ 24 := by omega
      have lz1 : z1.length ≤ 24 := by omega
      have lD : D.length ≤ 24 := by omega
      have lE : E.length ≤ 24 := by omega
      have htest : 0 < y.length ∨ (¬ 0 < y.length ∧ 0 < z.length) := by omega
      rcases htest with hy0 | ⟨hy0, hz0⟩
      all_goals
        go_wp2_with (first
          | (go_at_call_of 37 (Value.string ⟨y.toArray⟩); refine (rrow_is y h24y false _ R1.out _).mono ?_; rintro e w' ⟨rfl, rfl⟩)
          | (go_at_call_of 37 (Value.string ⟨z.toArray⟩); refine (rrow_is z h24z false _ T1.out _).mono ?_; rintro e w' ⟨rfl, rfl⟩))
        go_loopw [7] (fun q wr => ∃ i : Nat, i ≤ 24 ∧ q = .int .i64 i ∧ Ver.signs 25 Y Z = Ver.signs (25 - i) (Y.drop i) (Z.drop i) ∧ Below w.heap.size w wr) (fun q _ => 25 - (intOf q).toNat)
        case atStart => exact ⟨0, Nat.zero_le _, rfl, rfl, HB.out⟩
        case round =>
          obtain ⟨i, hi, rfl, hsi, hbel⟩ := hrel
          have HI := hide hsi; clear hsi
          replace HB := hide hbel; clear hbel
          have q1 := rk_at zY.out i
          have q2 := rk_at zZ.out i
          have c1 : (Y.length : Int) ≤ y.length := by omega
          have c2 : (Z.length : Int) ≤ z.length := by omega
          by_cases hin : i < Y.length ∨ i < Z.length
          · have hi23 : i ≤ 23 := by omega
            have hcase : i < Y.length ∨ (¬ i < Y.length ∧ i < Z.length) := by omega
            clear hin
            by_cases hc : Ver.cmpI (Ver.rk (Y.drop i)) (Ver.rk (Z.drop i)) = 0
            · have HC := hide hc
              have hc' : (Ver.cmpI (Ver.rk (Y.drop i)) (Ver.rk (Z.drop i)) != 0) = false := bne_eq_false_iff_eq.2 hc
              clear hc
              rcases hcase with h1 | ⟨h1, h2⟩
              all_goals
                go_wp2_with fail
                go_quiet ((first | (go_at_call 39; exact Calls.quiet_of_same (rat_any _ _ _)) | (go_at_call 38; exact Calls.quiet_of_same (rrank_any _ _)) | (go_at_call 16; exact Calls.quiet_of_same (rless_any _ _ _))))
                go_wp2_with fail
                exact ⟨⟨i + 1, by omega, by go_num, by rw [HI.out, signs_on (by omega) HC.out], below_drewN HB.out _⟩, by simp [intOf]; omega⟩
            · have HC := hide hc
              have hc' : (Ver.cmpI (Ver.rk (Y.drop i)) (Ver.rk (Z.drop i)) != 0) = true := bne_iff_ne.2 hc
              clear hc
              rcases hcase with h1 | ⟨h1, h2⟩
              all_goals
                go_wp2_with fail
                go_quiet ((first | (go_at_call 39; exact Calls.quiet_of_same (rat_any _ _ _)) | (go_at_call 38; exact Calls.quiet_of_same (rrank_any _ _)) | (go_at_call 16; exact Calls.quiet_of_same (rless_any _ _ _))))
                go_wp2_with fail
                go_ret
                have hfin : Ver.parts 25 a b = Ver.cmpI (Ver.rk (Y.drop i)) (Ver.rk (Z.drop i)) := by
                  rw [HP.out, HI.out, signs_off (by omega) HC.out, Ver.or3, if_neg HC.out]
                exact ⟨ret_int hfin.symm, below_drewN HB.out _⟩
          · have n1 : ¬ (i : Int) < Y.length := by omega
            have n2 : ¬ (i : Int) < Z.length := by omega
            have hs0 : Ver.signs 25 Y Z = 0 := by
              rw [HI.out, List.drop_of_length_le (by omega), List.drop_of_length_le (by omega), Ver.signs_nil]
            have hp : Ver.parts 25 a b = Ver.or3 (Ver.nums D E) (Ver.parts (25 - (k + 1)) y2 z2) := by
              rw [HP.out, hs0, Ver.or3, if_pos rfl]
            have HQ := hide hp
            clear hp hs0 hin q1 q2
            have d1 : (D.length : Int) ≤ y1.length := by omega
            have d2 : (E.length : Int) ≤ z1.length := by omega
            go_wp2_with (first
              | (go_at_call_of 37 (Value.string ⟨y1.toArray⟩); refine (rrow_is y1 ly1 true _ R2.out _).mono ?_; rintro e w' ⟨rfl, rfl⟩)
              | (go_at_call_of 37 (Value.string ⟨z1.toArray⟩); refine (rrow_is z1 lz1 true _ T2.out _).mono ?_; rintro e w' ⟨rfl, rfl⟩)
              | (go_at_call_of 40 (Value.string ⟨D.toArray⟩); refine (rvalue_any D lD _).mono ?_; rintro e w' ⟨rfl, rfl⟩)
              | (go_at_call_of 40 (Value.string ⟨E.toArray⟩); refine (rvalue_any E lE _).mono ?_; rintro e w' ⟨rfl, rfl⟩)
              | (go_at_call 16; refine (rless_any _ _ _).mono ?_; rintro e w' ⟨rfl, rfl⟩))
            all_goals first
              | (go_ret; exact ⟨ret_int (end_1 HQ.out ‹_›), HB.out⟩)
              | (go_ret; exact ⟨ret_int (end_2 lD lE HQ.out ‹_› ‹_›), HB.out⟩)
              | (go_ret; exact ⟨ret_int (end_3 lD lE HQ.out ‹_› ‹_› ‹_›), HB.out⟩)
              | exact ⟨⟨k + 1, y2, z2, by omega, len_on l4 hy, len_on v4 hz, rfl, rfl, zy2, zz2, end_4 lD lE HQ.out ‹_› ‹_› ‹_›, HB.out⟩, strLen_lt l4 v4 hpos⟩
end Go.Proofs.YtgdmgmklncmanaaGreatDoor
