/- The walks over cmp.Or, cmp.Compare of texts, compareNumbers. -/
import Derived.Test.YtgdmgmklncmanaaGreatDoorVerW3
namespace Go.Proofs.YtgdmgmklncmanaaGreatDoor
open Go.RowKit

def firstNZ : List Int → Int
  | [] => 0
  | c :: l => Ver.or3 c (firstNZ l)
theorem nz_on {xs : List Int} {k : Nat} (h : k < xs.length) (h0 : xs[k] = 0) : firstNZ (xs.drop k) = firstNZ (xs.drop (k + 1)) := by
  rw [List.drop_eq_getElem_cons h, firstNZ]
  simp [Ver.or3, h0]
theorem nz_off {xs : List Int} {k : Nat} (h : k < xs.length) (h0 : xs[k] ≠ 0) : firstNZ (xs.drop k) = xs[k] := by
  rw [List.drop_eq_getElem_cons h, firstNZ]
  simp [Ver.or3, h0]
theorem nz_end {xs : List Int} {k : Nat} (h : ¬ k < xs.length) : firstNZ (xs.drop k) = 0 := by
  rw [List.drop_of_length_le (by omega)]; rfl

set_option maxHeartbeats 400000 in
theorem or_any (b : Nat) (n cap : Nat) (xs : List Int) (hn : n = xs.length) (hm : n ≤ 1000) (w : World)
    (hc : ∀ j, j < xs.length → w.cell? ⟨b, j, none⟩ = some (.int .i64 (xs.getD j 0))) :
    Calls Tryz.prog 32 #[.slice (some ⟨b, 0, none⟩) n cap] w fun e w' => e = .returned (.int .i64 (firstNZ xs)) ∧ w' = w := by
  subst hn
  go_enter Tryz.func32, Tryz.ntmps32
  go_wp2_with fail
  go_loop [8] (fun i => ∃ k : Nat, k ≤ xs.length ∧ i = .int .i64 k ∧ firstNZ xs = firstNZ (xs.drop k)) (fun i => xs.length - (intOf i).toNat)
  case atStart => exact ⟨0, Nat.zero_le _, rfl, rfl⟩
  case round =>
    obtain ⟨k, hk, rfl, hs⟩ := hrel
    have HS := hide hs; clear hs
    by_cases hlt : k < xs.length
    · have hck : w.cell? ⟨b, k, none⟩ = some (.int .i64 xs[k]) := by rw [hc k hlt]; simp [List.getD, hlt]
      clear hc
      by_cases h0 : xs[k] = 0
      · have H0 := hide h0
        have h0' : (xs[k] != 0) = false := bne_eq_false_iff_eq.2 h0
        clear h0
        go_wp2_with fail
        go_round
        case rel => exact ⟨k + 1, by omega, by go_num, by rw [HS.out]; exact nz_on hlt H0.out⟩
        case measure => simp [intOf]; omega
      · have H0 := hide h0
        have h0' : (xs[k] != 0) = true := bne_iff_ne.2 h0
        clear h0
        go_wp2_with fail
        go_ret
        exact ⟨ret_int (by rw [HS.out, nz_off hlt H0.out]), rfl⟩
    · go_wp2_with fail
      go_ret
      exact ⟨ret_int (by rw [HS.out, nz_end hlt]), rfl⟩

theorem lexb_eq : ∀ (n : Nat) (x y : List UInt8), x.length < n → y.length < n → Ver.lexb n x y = if Op.bytesLess x y = true then -1 else if (x == y) = true then 0 else 1
  | 0, _, _, h, _ => absurd h (by omega)
  | n + 1, [], [], _, _ => by rw [Ver.lexb_nil]; simp [Op.bytesLess]
  | n + 1, [], b :: y, _, _ => by
    have : Ver.kb (b :: y) = b.toNat := rfl
    have h2 : Ver.cmpI (-1) (b.toNat : Int) = -1 := by simp only [Ver.cmpI]; rw [if_pos (by omega)]
    rw [Ver.lexb, show Ver.kb [] = -1 from rfl, this, h2]; simp [Op.bytesLess, Ver.or3]
  | n + 1, a :: x, [], _, _ => by
    have : Ver.kb (a :: x) = a.toNat := rfl
    have h2 : Ver.cmpI (a.toNat : Int) (-1) = 1 := by simp only [Ver.cmpI]; rw [if_neg (by omega), if_pos (by omega)]
    rw [Ver.lexb, show Ver.kb [] = -1 from rfl, this, h2]; simp [Op.bytesLess, Ver.or3]
  | n + 1, a :: x, b :: y, hx, hy => by
    have ih := lexb_eq n x y (by simpa using hx) (by simpa using hy)
    rw [Ver.lexb, show Ver.kb (a :: x) = a.toNat from rfl, show Ver.kb (b :: y) = b.toNat from rfl, show (a :: x).tail = x from rfl, show (b :: y).tail = y from rfl, ih]
    have hlt : (a < b) ↔ (a.toNat : Int) < b.toNat := by rw [UInt8.lt_iff_toNat_lt]; omega
    have heq : (a = b) ↔ (a.toNat : Int) = b.toNat := by rw [← UInt8.toNat_inj]; omega
    by_cases h1 : a < b
    · have h1' := hlt.1 h1
      simp [Op.bytesLess, Ver.or3, Ver.cmpI, h1, h1']
    · have h1' : ¬ (a.toNat : Int) < b.toNat := fun h => h1 (hlt.2 h)
      by_cases h2 : a = b
      · have h2' := heq.1 h2
        simp [Op.bytesLess, Ver.or3, Ver.cmpI, h2]
      · have h2' : ¬ (a.toNat : Int) = b.toNat := fun h => h2 (heq.2 h)
        have h3' : (b.toNat : Int) < a.toNat := by omega
        simp [Op.bytesLess, Ver.or3, Ver.cmpI, h1, h2, h1', h3']

theorem less_1 {x y : List UInt8} {r : Int} (h : r = if Op.bytesLess x y = true then -1 else if (x == y) = true then 0 else 1) (h1 : Op.bytesLess x y = true) : -1 = r := by simp [h, h1]
theorem less_2 {x y : List UInt8} {r : Int} (h : r = if Op.bytesLess x y = true then -1 else if (x == y) = true then 0 else 1) (h1 : Op.bytesLess x y = false) (h2 : (!x == y) = true) : 1 = r := by
  simp at h2; simp [h, h1, h2]
theorem less_3 {x y : List UInt8} {r : Int} (h : r = if Op.bytesLess x y = true then -1 else if (x == y) = true then 0 else 1) (h1 : Op.bytesLess x y = false) (h2 : (!x == y) = false) : 0 = r := by
  simp at h2; subst h2; simp [h, h1]

set_option maxHeartbeats 400000 in
theorem cmpS_any (a b : ByteArray) (ha : a.size ≤ 24) (hb : b.size ≤ 24) (w : World) :
    Calls Tryz.prog 61 #[.string a, .string b] w fun e w' => e = .returned (.int .i64 (Ver.lexb 25 a.data.toList b.data.toList)) ∧ w' = w := by
  have he := lexb_eq 25 a.data.toList b.data.toList (by simp; omega) (by simp; omega)
  rw [← Lib.toList_data, ← Lib.toList_data] at he ⊢
  have HE := hide he; clear he
  go_enter Tryz.func61, Tryz.ntmps61
  go_wp2
  all_goals (go_ret; exact ⟨ret_int (by first | exact less_1 HE.out ‹_› | exact less_2 HE.out ‹_› ‹_› | exact less_3 HE.out ‹_› ‹_›), rfl⟩)

theorem trim_any (s : ByteArray) (w : World) :
    Calls Tryz.prog 59 #[.string s, .string ⟨#[48]⟩] w fun e w' => e = .returned (.string ⟨(Ver.trim s.data.toList).toArray⟩) ∧ w' = w :=
  Tryz.strings_TrimLeft_one s 48 (by decide) w
theorem trim_le (l : List UInt8) : (Ver.trim l).length ≤ l.length := (List.dropWhile_suffix _).length_le

theorem cmpL_any (x y : List UInt8) (hx : x.length ≤ 24) (hy : y.length ≤ 24) (w : World) :
    Calls Tryz.prog 61 #[.string ⟨x.toArray⟩, .string ⟨y.toArray⟩] w fun e w' => e = .returned (.int .i64 (Ver.lexb 25 x y)) ∧ w' = w :=
  cmpS_any ⟨x.toArray⟩ ⟨y.toArray⟩ (by simpa [ByteArray.size] using hx) (by simpa [ByteArray.size] using hy) w
theorem two_cells {w : World} {b : Nat} {x y : Int} (h0 : w.cell? ⟨b, 0, none⟩ = some (.int .i64 x)) (h1 : w.cell? ⟨b, 1, none⟩ = some (.int .i64 y)) :
    ∀ j, j < [x, y].length → w.cell? ⟨b, j, none⟩ = some (.int .i64 ([x, y].getD j 0)) := by
  intro j hj
  match j, hj with
  | 0, _ => exact h0
  | 1, _ => exact h1
theorem nz_two (x y : Int) : firstNZ [x, y] = Ver.or3 x y := by
  by_cases h : y = 0 <;> simp [firstNZ, Ver.or3, h]
theorem or_two (x y : Int) (w : World) :
    Calls Tryz.prog 32 #[.slice (some ⟨w.heap.size, 0, none⟩) 2 2] (w.alloc (.cells #[.int .i64 x, .int .i64 y] 3)) fun e w' =>
      e = .returned (.int .i64 (Ver.or3 x y)) ∧ w' = w.alloc (.cells #[.int .i64 x, .int .i64 y] 3) := by
  rw [← nz_two]
  exact or_any w.heap.size 2 2 [x, y] rfl (by decide) _ (two_cells (by simp [go_sem]) (by simp [go_sem]))

set_option maxHeartbeats 400000 in
theorem nums_any (a b : ByteArray) (ha : a.size ≤ 24) (hb : b.size ≤ 24) (w : World) :
    Calls Tryz.prog 33 #[.string a, .string b] w fun e w' => e = .returned (.int .i64 (Ver.nums a.data.toList b.data.toList)) ∧ Below w.heap.size w w' := by
  have hx : (Ver.trim a.data.toList).length ≤ 24 := Nat.le_trans (trim_le _) (by simpa using ha)
  have hy : (Ver.trim b.data.toList).length ≤ 24 := Nat.le_trans (trim_le _) (by simpa using hb)
  go_enter Tryz.func33, Tryz.ntmps33
  go_wp2_with (first
    | (go_at_call 59; refine (trim_any _ _).mono ?_; rintro e w' ⟨rfl, rfl⟩)
    | (go_at_call 60; refine (cmpI_any _ _ _).mono ?_; rintro e w' ⟨rfl, rfl⟩)
    | (go_at_call 61; refine (cmpL_any _ _ hx hy _).mono ?_; rintro e w' ⟨rfl, rfl⟩)
    | (go_at_call 32; refine (or_two _ _ _).mono ?_; rintro e w' ⟨rfl, rfl⟩))
  go_ret
  exact ⟨rfl, (Below.refl _ _).alloc (Nat.le_refl _) _⟩
end Go.Proofs.YtgdmgmklncmanaaGreatDoor
