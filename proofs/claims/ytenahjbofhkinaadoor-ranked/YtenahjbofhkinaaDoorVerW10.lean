/- The walks over pick and digits of the statements' own package. -/
import Derived.Test.YtenahjbofhkinaaDoorVerW9
import Derived.Test.YtenahjbofhkinaaDoorVerRank
import Derived.Laws.IdiomStrings
namespace Go.Proofs.YtenahjbofhkinaaDoor
open Go.RowKit

def pk (c n : Int) : Int := (if c < 0 then -(c + 1) else c) % n
theorem pk_lt (c : Int) : 0 ≤ pk c 1000 ∧ pk c 1000 < 1000 := by unfold pk; omega
set_option maxHeartbeats 400000 in
theorem pick_any (c : Int) (h0 : -9223372036854775808 ≤ c) (h1 : c ≤ 9223372036854775807) (w : World) :
    Calls Tryd.prog 4 #[.int .i64 c, .int .i64 1000] w fun e w' => e = .returned (.int .i64 (pk c 1000)) ∧ w' = w := by
  by_cases hc : c < 0
  · have e : pk c 1000 = (-(c + 1)) % 1000 := by simp [pk, hc]
    rw [e]
    go_enter Tryd.func4, Tryd.ntmps4
    go_wp2
    go_ret
    have h := Int.tmod_eq_emod_of_nonneg (a := -(c + 1)) (b := 1000) (by omega)
    rw [Int.neg_tmod] at h
    exact ⟨ret_int (by omega), rfl⟩
  · have e : pk c 1000 = c % 1000 := by simp [pk, hc]
    rw [e]
    go_enter Tryd.func4, Tryd.ntmps4
    go_wp2
    go_ret
    exact ⟨ret_int (by omega), rfl⟩

/-- The last digit's sign. -/
def dI (z : Int) : UInt8 := (48 + z % 10).toNat.toUInt8
theorem digit_made (W : World) (z : Int) : (convert 28 9 (.slice (some ⟨W.heap.size, 0, none⟩) 1 1)).run Tryd.prog (W.alloc (.cells #[.int .u8 (48 + z % 10)] 5)) =
    .ok (.string ⟨[dI z].toArray⟩) (W.alloc (.cells #[.int .u8 (48 + z % 10)] 5)) := by
  refine run_convert_bytes_back _ 28 9 5 ⟨W.heap.size, 0, none⟩ 1 [dI z] Tryd.underlying28 Tryd.underlying5 Tryd.underlying9 ?_
  intro j hj
  have hj0 : j = 0 := by simpa using hj
  subst hj0
  have hv : ((dI z).toNat : Int) = 48 + z % 10 := by
    show ((UInt8.ofNat (48 + z % 10).toNat).toNat : Int) = _
    rw [UInt8.toNat_ofNat']; omega
  simp [go_sem, Addr.add, hv]

theorem dI_d1 {n : Nat} (z : Int) (h : z = n) : dI z = Ver.d1 (n % 10) := by
  subst h; simp only [dI, Ver.d1]; congr 1
def Dig (n : Nat) (q : Int) (l : List UInt8) : Prop :=
  (q = n ∧ l = [Ver.d1 (n % 10)]) ∨ (10 ≤ n ∧ q = (n / 10 : Nat) ∧ l = [Ver.d1 (n / 10 % 10), Ver.d1 (n % 10)]) ∨ (100 ≤ n ∧ q = (n / 100 : Nat) ∧ l = [Ver.d1 (n / 100 % 10), Ver.d1 (n / 10 % 10), Ver.d1 (n % 10)])
theorem dig_next {n : Nat} (hn : n < 1000) {q : Int} {l : List UInt8} (h : Dig n q l) (hq : 10 ≤ q) : Dig n (q / 10) (dI (q / 10) :: l) := by
  rcases h with ⟨rfl, rfl⟩ | ⟨h1, rfl, rfl⟩ | ⟨h1, rfl, rfl⟩
  · exact .inr (.inl ⟨by omega, by omega, by rw [dI_d1 (n := n / 10) _ (by omega)]⟩)
  · exact .inr (.inr ⟨by omega, by omega, by rw [dI_d1 (n := n / 100) _ (by omega)]⟩)
  · omega
theorem dig_done {n : Nat} (hn : n < 1000) {q : Int} {l : List UInt8} (h : Dig n q l) (hq : ¬ 10 ≤ q) : l = Ver.dg n := by
  rcases h with ⟨rfl, rfl⟩ | ⟨h1, rfl, rfl⟩ | ⟨h1, rfl, rfl⟩
  · have : n < 10 := by omega
    simp [Ver.dg, this, Nat.mod_eq_of_lt this]
  · have h2 : ¬ n < 10 := by omega
    have h3 : n < 100 := by omega
    simp [Ver.dg, h2, h3, Nat.mod_eq_of_lt (show n / 10 < 10 by omega)]
  · have h2 : ¬ n < 10 := by omega
    have h3 : ¬ n < 100 := by omega
    simp [Ver.dg, h2, h3, Nat.mod_eq_of_lt (show n / 100 < 10 by omega)]
theorem dig_le {n : Nat} {q : Int} {l : List UInt8} (h : Dig n q l) (hn : n < 1000) : l.length ≤ 3 ∧ 0 ≤ q ∧ q < 1000 := by
  rcases h with ⟨rfl, rfl⟩ | ⟨h1, rfl, rfl⟩ | ⟨h1, rfl, rfl⟩ <;> simp <;> omega
theorem list_append (x y : List UInt8) : (⟨x.toArray⟩ : ByteArray) ++ ⟨y.toArray⟩ = ⟨(x ++ y).toArray⟩ := by
  apply bytes_ext; simp

set_option maxHeartbeats 400000 in
theorem digits_any (n : Nat) (hn : n < 1000) (w : World) :
    Calls Tryd.prog 5 #[.int .i64 n] w fun e w' => e = .returned (.string ⟨(Ver.dg n).toArray⟩) ∧ Below w.heap.size w w' := by
  have hm := digit_made
  go_enter Tryd.func5, Tryd.ntmps5
  go_wp2_with fail
  go_loopw [0, 3] (fun a b wr => ∃ (q : Int) (l : List UInt8), Dig n q l ∧ a = .int .i64 q ∧ b = .string ⟨l.toArray⟩ ∧ Below w.heap.size w wr) (fun a _ _ => (intOf a).toNat)
  case atStart => exact ⟨_, _, .inl ⟨rfl, by rw [dI_d1 (n := n) _ rfl]⟩, rfl, rfl, (Below.refl _ _).alloc (Nat.le_refl _) _⟩
  case round =>
    obtain ⟨q, l, hd, rfl, rfl, hb⟩ := hrel
    have HD := hide hd
    obtain ⟨hl, hq0, hq1⟩ := dig_le hd hn
    clear hd
    have HB := hide hb; clear hb
    by_cases hq : 10 ≤ q
    · go_wp2_with fail
      exact ⟨⟨q / 10, _, dig_next hn HD.out hq, rfl, congrArg Value.string (list_append [dI (q / 10)] l), HB.out.alloc HB.out.size _⟩, by simp [intOf]; omega⟩
    · go_wp2_with fail
      go_ret
      have he := dig_done hn HD.out (by omega)
      exact ⟨ret_str (by rw [he]), HB.out⟩
end Go.Proofs.YtenahjbofhkinaaDoor
