/- Of Ins: HsTab, RdW1, RdW2. -/
import Derived.Test.YtgdmgmklncmanaaGreatDoorIns29
import Derived.Test.YtgdmgmklncmanaaGreatDoorIns27
import Derived.Test.YtgdmgmklncmanaaGreatDoorIns15
/- The document's tables are the program's. -/
namespace Go.Proofs.YtgdmgmklncmanaaGreatDoor
open Go.RowKit

def primes64 : List Nat := [2, 3, 5, 7, 11, 13, 17, 19, 23, 29, 31, 37, 41, 43, 47, 53, 59, 61, 67, 71, 73, 79, 83, 89, 97, 101, 103, 107, 109, 113, 127, 131, 137, 139, 149, 151, 157, 163, 167, 173, 179, 181, 191, 193, 197, 199, 211, 223, 227, 229, 233, 239, 241, 251, 257, 263, 269, 271, 277, 281, 283, 293, 307, 311]
theorem pr_list : pr 310 = primes64 := by decide +kernel
def kNat : List Nat := [0x428a2f98, 0x71374491, 0xb5c0fbcf, 0xe9b5dba5, 0x3956c25b, 0x59f111f1, 0x923f82a4, 0xab1c5ed5, 0xd807aa98, 0x12835b01, 0x243185be, 0x550c7dc3, 0x72be5d74, 0x80deb1fe, 0x9bdc06a7, 0xc19bf174, 0xe49b69c1, 0xefbe4786, 0x0fc19dc6, 0x240ca1cc, 0x2de92c6f, 0x4a7484aa, 0x5cb0a9dc, 0x76f988da, 0x983e5152, 0xa831c66d, 0xb00327c8, 0xbf597fc7, 0xc6e00bf3, 0xd5a79147, 0x06ca6351, 0x14292967, 0x27b70a85, 0x2e1b2138, 0x4d2c6dfc, 0x53380d13, 0x650a7354, 0x766a0abb, 0x81c2c92e, 0x92722c85, 0xa2bfe8a1, 0xa81a664b, 0xc24b8b70, 0xc76c51a3, 0xd192e819, 0xd6990624, 0xf40e3585, 0x106aa070, 0x19a4c116, 0x1e376c08, 0x2748774c, 0x34b0bcb5, 0x391c0cb3, 0x4ed8aa4a, 0x5b9cca4f, 0x682e6ff3, 0x748f82ee, 0x78a5636f, 0x84c87814, 0x8cc70208, 0x90befffa, 0xa4506ceb, 0xbef9a3f7, 0xc67178f2]
theorem cubes : (List.range 64).all (fun i => frN (primes64.getD i 0) true 38 0 % 4294967296 == kNat.getD i 0) = true := by decide +kernel
theorem squares : (List.range 8).all (fun i => frN (primes64.getD i 0) false 38 0 % 4294967296 == [1779033703, 3144134277, 1013904242, 2773480762, 1359893119, 2600822924, 528734635, 1541459225].getD i 0) = true := by decide +kernel
theorem pri_list (i : Nat) : pri i = primes64.getD i 0 := by rw [pri, pr_list]
theorem pri_lt (i : Nat) : pri i < 1000000 := by have := (pri_bd i).2; omega
theorem tab_cube (i : Nat) (hi : i < 64) : fracP ((pri i : Nat) : Int) true = ((kNat.getD i 0 : Nat) : Int) := by
  rw [fracP_num _ (pri_lt i), pri_list]
  have := List.all_eq_true.1 cubes i (List.mem_range.2 hi)
  rw [beq_iff_eq] at this
  rw [this]
theorem tab_square (i : Nat) (hi : i < 8) : fracP ((pri i : Nat) : Int) false = iv.nth i := by
  rw [fracP_num _ (pri_lt i), pri_list]
  have := List.all_eq_true.1 squares i (List.mem_range.2 hi)
  rw [beq_iff_eq] at this
  rw [this]
  rcases (show i = 0 ∨ i = 1 ∨ i = 2 ∨ i = 3 ∨ i = 4 ∨ i = 5 ∨ i = 6 ∨ i = 7 from by omega) with rfl | rfl | rfl | rfl | rfl | rfl | rfl | rfl <;> rfl
/-- The cells of the tables' rows. -/
theorem rowH {w : World} {B g c : Nat} (h : w.ownsRow B 110 1 (.slice (some ⟨g, 0, none⟩) 8 c) 8 (u32s (tabH 8))) : ∀ j, j < 8 → w.cell? ⟨g, j, none⟩ = some (.int .u32 (iv.nth j)) := by
  intro j hj
  rw [h.cellAt j (by omega)]
  simp [u32s, tabH, hj, tab_square j hj]
theorem rowK {w : World} {B g c : Nat} (h : w.ownsRow B 110 1 (.slice (some ⟨g, 0, none⟩) 64 c) 64 (u32s (tabK 64))) : ∀ j, j < 64 → w.cell? ⟨g, j, none⟩ = some (.int .u32 ((kNat.getD j 0 : Nat) : Int)) := by
  intro j hj
  rw [h.cellAt j (by omega)]
  simp [u32s, tabK, hj, tab_cube j hj]
end Go.Proofs.YtgdmgmklncmanaaGreatDoor
/- The walk over the document's own reading: what the loop over its lines hangs on. -/
namespace Go.Proofs.YtgdmgmklncmanaaGreatDoor
open Go.RowKit
open Arc (RSt RCmd S)

theorem rowKt {w : World} {B g c : Nat} (h : w.ownsRow B 110 1 (.slice (some ⟨g, 0, none⟩) 64 c) 64 (u32s (tabK 64))) : ∀ j, j < 64 → w.cell? ⟨g, j, none⟩ = some (.int .u32 (kTab j)) := by
  intro j hj
  rw [rowK h j hj]
  have : ∀ j : Fin 64, ((kNat.getD j.val 0 : Nat) : Int) = kTab j.val := by decide
  rw [this ⟨j, hj⟩]

/-- What is still to come of a reading: behind n lines, the last one's kind la, the bytes cur of the present line read. -/
def rcf (st : RSt) (la : Int) (n : Nat) (cur rest : S) : Option (RSt × Int × Nat × S) := match Arc.rcut cur rest with
  | none => none
  | some (ls, c) => match Arc.rfold st la ls with
    | none => none
    | some (st', la') => some (st', la', n + ls.length, c)
theorem rcf_end (st : RSt) (la : Int) (n : Nat) (cur : S) : rcf st la n cur [] = none := rfl
theorem rcf_byte (st : RSt) (la : Int) (n : Nat) (cur : S) (c : UInt8) (l : S) (h : c ≠ 10) : rcf st la n cur (c :: l) = rcf st la n (cur ++ [c]) l := by
  rw [rcf, rcf, Arc.rcut, if_neg h]
theorem rcf_stop (st : RSt) (la : Int) (n : Nat) (l : S) : rcf st la n [] (10 :: l) = some (st, la, n, l) := rfl
theorem rcf_line (st : RSt) (la : Int) (n : Nat) (cur l : S) (h : cur ≠ []) : rcf st la n cur (10 :: l) = match Arc.rline st (sp 32 cur) with
    | none => none
    | some st' => if Arc.rbad (rkd (sp 32 cur).head!) la then none else rcf st' (rkd (sp 32 cur).head!) (n + 1) [] l := by
  rw [rcf, Arc.rcut, if_pos rfl, if_neg h]
  cases hr : Arc.rcut [] l with
  | none =>
    simp only [Option.map_none]
    cases Arc.rline st (sp 32 cur) with
    | none => rfl
    | some st' => simp only [rcf, hr]; split <;> rfl
  | some r =>
    obtain ⟨ls, c⟩ := r
    simp only [Option.map_some, Arc.rfold]
    cases Arc.rline st (sp 32 cur) with
    | none => rfl
    | some st' =>
      simp only [rcf, hr]
      by_cases hb : Arc.rbad (rkd (sp 32 cur).head!) la
      · simp only [if_pos hb]
      · simp only [if_neg hb]
        cases Arc.rfold st' (rkd (sp 32 cur).head!) ls with
        | none => rfl
        | some q => obtain ⟨st2, la2⟩ := q; simp only [List.length_cons]; congr 4; omega
/-- The whole reading, by that. -/
theorem rread_rcf (short : S → S) (x : S) (hx : x.length ≤ 2000) : Arc.rread short x = match rcf .zero (-1) 0 [] x with
    | none => none
    | some (st, la, n, c) => if la < 2 ∨ 24 < n then none else match Arc.eat short st.files c with
      | none => none
      | some (F, left) => if left = [] then some (st, F) else none := by
  rw [Arc.rread, if_neg (by omega), rcf]
  cases Arc.rcut [] x with
  | none => rfl
  | some r =>
    obtain ⟨ls, c⟩ := r
    simp only
    cases Arc.rfold .zero (-1) ls with
    | none => rfl
    | some q => obtain ⟨st, la⟩ := q; simp only [Nat.zero_add]; rfl

/-- The bounds of a reading grow by one a line. -/
def RLe (st : RSt) (n : Nat) : Prop := st.needs.length ≤ n ∧ st.breaks.length ≤ n ∧ st.wakes.length ≤ n ∧ st.files.length ≤ n ∧ st.runs.length ≤ n ∧ st.wokens.length ≤ n
theorem rline_le {st st' : RSt} {x : S} {r : List S} {n : Nat} (hyp : Arc.rline st (x :: r) = some st') (hl : RLe st n) : RLe st' (n + 1) := by
  obtain ⟨h1, h2, h3, h4, h5, h6⟩ := hl
  rw [rline_cons] at hyp
  generalize rkd x = kk at hyp
  repeat' split at hyp
  all_goals first
    | (cases hyp; done)
    | (cases hyp; refine ⟨?_, ?_, ?_, ?_, ?_, ?_⟩ <;> (try simp) <;> omega)
theorem RLe.fits {st : RSt} {n : Nat} (h : RLe st n) (hn : n ≤ 2000) : RFits st := by
  obtain ⟨h1, h2, h3, h4, h5, h6⟩ := h
  exact ⟨by omega, by omega, by omega, by omega, by omega, by omega⟩
end Go.Proofs.YtgdmgmklncmanaaGreatDoor
/- The walk over the document's own reading. -/
namespace Go.Proofs.YtgdmgmklncmanaaGreatDoor
open Go.RowKit
open Arc (RSt RCmd S)

/-- The files' row: the first with their contents, the rest without. -/
def rowF (F : List (S × S)) (r : List (S × Int × S)) : List Value := F.flatMap pairV ++ r.flatMap fileV
theorem rowF_len (F : List (S × S)) (r : List (S × Int × S)) : (rowF F r).length = 2 * (F.length + r.length) := by
  have h1 : ∀ F : List (S × S), (F.flatMap pairV).length = 2 * F.length := fun F => by
    induction F with
    | nil => rfl
    | cons a l ih => simp [pairV, ih]; omega
  have h2 : ∀ r : List (S × Int × S), (r.flatMap fileV).length = 2 * r.length := fun r => by
    induction r with
    | nil => rfl
    | cons a l ih => simp [fileV, ih]; omega
  rw [rowF, List.length_append, h1, h2]; omega
theorem rowF_set (F : List (S × S)) (f : S × Int × S) (r : List (S × Int × S)) (c : S) (k : Nat) (hk : k = F.length) : (rowF F (f :: r)).set (2 * k + 1) (strV c) = rowF (F ++ [(f.1, c)]) r := by
  subst hk
  have h1 : (F.flatMap pairV).length = 2 * F.length := by
    have := rowF_len F []
    simpa [rowF] using this
  rw [rowF, rowF, List.set_append_right _ _ (by omega), h1, show 2 * F.length + 1 - 2 * F.length = 1 from by omega]
  simp [pairV, fileV]
theorem rowF_at (F : List (S × S)) (f : S × Int × S) (r : List (S × Int × S)) (k : Nat) (hk : k = F.length) : (rowF F (f :: r))[2 * k]? = some (strV f.1) ∧ (rowF F (f :: r))[2 * k + 1]? = some (strV []) := by
  subst hk
  have h1 : (F.flatMap pairV).length = 2 * F.length := by
    have := rowF_len F []
    simpa [rowF] using this
  rw [rowF]
  constructor
  · rw [List.getElem?_append_right (by omega), h1, show 2 * F.length - 2 * F.length = 0 from by omega]; simp [fileV]
  · rw [List.getElem?_append_right (by omega), h1, show 2 * F.length + 1 - 2 * F.length = 1 from by omega]; simp [fileV]
/-- A cell of an own row set. -/
theorem own_set {w : World} {B : Nat} {e : TypeId} {size n g cap : Nat} {xs : List Value} (h : w.ownsRow B e size (.slice (some ⟨g, 0, none⟩) n cap) n xs) (i : Nat) (v : Value) : (w.setCell ⟨g, i, none⟩ v).ownsRow B e size (.slice (some ⟨g, 0, none⟩) n cap) n (xs.set i v) := by
  refine ⟨by rw [List.length_set]; exact h.1, ?_⟩
  rcases h.2 with ⟨h', _⟩ | ⟨g', cap', cur, h', hg, hgg, h1, h2, h3, h4⟩
  · simp at h'
  · simp only [Value.slice.injEq, Option.some.injEq, Addr.mk.injEq, and_true, true_and] at h'
    obtain ⟨rfl, rfl⟩ := h'
    refine .inr ⟨g, cap, cur.setIfInBounds i v, rfl, hg, heap_setCell_same _ g i _ _ v hgg, h1, h2, by rw [Array.size_setIfInBounds]; exact h3, ?_⟩
    rw [Array.toList_setIfInBounds, List.take_set, h4]
theorem own_far {w : World} {B : Nat} {e : TypeId} {size n : Nat} {v u : Value} {xs : List Value} {g i : Nat} (h : w.ownsRow B e size v n xs) (hn : v.ownBlock ≠ some g) : (w.setCell ⟨g, i, none⟩ u).ownsRow B e size v n xs := by
  refine ⟨h.1, ?_⟩
  rcases h.2 with h' | ⟨g', cap', cur, rfl, hg, hgg, rest⟩
  · exact .inl h'
  · refine .inr ⟨g', cap', cur, rfl, hg, ?_, rest⟩
    rw [Below.heap_setCell _ _ _ _ (fun e => hn (by rw [e]; rfl))]
    exact hgg
/-- The files' rows: j contents set. -/
def RFile (ab : Nat) (tx : S) (st : RSt) (sl : Fin 8 → Value) (F : List (S × S)) (r : List (S × Int × S)) (w : World) : Prop := RG ab tx st.name st.version (rup (rrow st) 3 (st.files.length, rowF F r)) sl w
theorem RFile.set {ab : Nat} {tx : S} {st : RSt} {sl : Fin 8 → Value} {F : List (S × S)} {f : S × Int × S} {r : List (S × Int × S)} {w : World} (h : RFile ab tx st sl F (f :: r) w) {g m cap : Nat} (hs : sl 3 = .slice (some ⟨g, 0, none⟩) m cap) (hm : m = st.files.length) (c : S) (k : Nat) (hk : k = F.length) :
    RFile ab tx st sl (F ++ [(f.1, c)]) r (w.setCell ⟨g, 2 * k + 1, none⟩ (strV c)) := by
  have hob : (sl 3).ownBlock = some g := by rw [hs]; rfl
  have hg := (h.own 3).lt g hob
  refine ⟨?_, fun i => ?_, h.apart⟩
  · rw [Below.heap_setCell _ _ _ _ (by show ab ≠ g; omega)]; exact h.blk
  · by_cases e : i = 3
    · subst e
      have h3 := h.own 3
      rw [hs] at h3 ⊢
      have e1 : (rup (rrow st) 3 (st.files.length, rowF F (f :: r)) 3) = (m, rowF F (f :: r)) := by rw [hm]; rfl
      have e2 : (rup (rrow st) 3 (st.files.length, rowF (F ++ [(f.1, c)]) r) 3) = (m, rowF (F ++ [(f.1, c)]) r) := by rw [hm]; rfl
      rw [e1] at h3
      rw [e2, ← rowF_set F f r c k hk]
      exact own_set h3 (2 * k + 1) (strV c)
    · have := h.own i
      rw [show rup (rrow st) 3 (st.files.length, rowF F (f :: r)) i = rrow st i from if_neg e] at this
      rw [show rup (rrow st) 3 (st.files.length, rowF (F ++ [(f.1, c)]) r) i = rrow st i from if_neg e]
      exact own_far this (fun e2 => h.apart i 3 e g e2 hob)
theorem RIn.toFile {ab : Nat} {tx : S} {st : RSt} {sl : Fin 8 → Value} {w : World} (h : RIn ab tx st sl w) : RFile ab tx st sl [] st.files w := by
  refine ⟨h.blk, fun i => ?_, h.apart⟩
  by_cases e : i = 3
  · subst e; exact h.own 3
  · rw [show rup (rrow st) 3 (st.files.length, rowF [] st.files) i = rrow st i from if_neg e]; exact h.own i
theorem RIn.begin (w : World) (x : S) : RIn w.heap.size x .zero (fun _ => .slice none 0 0) (w.alloc (.cells #[strV x, .string ⟨#[]⟩, .string ⟨#[]⟩, .slice none 0 0, .slice none 0 0, .slice none 0 0, .slice none 0 0, .slice none 0 0, .slice none 0 0] 46)) := by
  refine ⟨heap_alloc_new w _, fun i => ?_, fun i j _ g hg => by cases hg⟩
  match i with
  | 0 => exact World.ownsRow_nil _ _ _ _
  | 1 => exact World.ownsRow_nil _ _ _ _
  | 2 => exact World.ownsRow_nil _ _ _ _
  | 3 => exact World.ownsRow_nil _ _ _ _
  | 4 => exact World.ownsRow_nil _ _ _ _
  | 5 => exact World.ownsRow_nil _ _ _ _
  | 6 => exact World.ownsRow_nil _ _ _ _
  | 7 => exact World.ownsRow_nil _ _ _ _
end Go.Proofs.YtgdmgmklncmanaaGreatDoor
