/- Of Ins: SplMath, VerMath, VerW1, VerW2, VerW3. -/
import Derived.Lib.SplitLaws
import Derived.Lib.CountLaws
import Derived.Lib.CutLaws
import Derived.Test.YtgdmgmklncmanaaGreatDoorProg
import Derived.WalkKit
import Derived.WalkSpells
import Derived.WalkLawsBesides
import Derived.Lib.ConvBytes
import Derived.Test.YtgdmgmklncmanaaGreatDoorShelf
import Derived.Deep.RegionWith
/- A text between single bytes: one word for the library's own cutting and for the document's. Plain mathematics. -/
namespace Go.Proofs.YtgdmgmklncmanaaGreatDoor

/-- What stands between the bytes d. -/
def sp (d : UInt8) : List UInt8 → List (List UInt8)
  | [] => [[]]
  | c :: l => if c = d then [] :: sp d l else match sp d l with
    | [] => [[c]]
    | h :: t => (c :: h) :: t
theorem sp_ne (d : UInt8) (x : List UInt8) : sp d x ≠ [] := by
  cases x with
  | nil => simp [sp]
  | cons c l => rw [sp]; split; · simp
                split <;> simp
theorem sp_none (d : UInt8) : ∀ u : List UInt8, (∀ c ∈ u, c ≠ d) → sp d u = [u]
  | [], _ => rfl
  | c :: l, h => by
    have ih := sp_none d l fun e he => h e (by simp [he])
    have hc : c ≠ d := h c (by simp)
    simp [sp, hc, ih]
theorem sp_cut (d : UInt8) : ∀ (u v : List UInt8), (∀ c ∈ u, c ≠ d) → sp d (u ++ d :: v) = u :: sp d v
  | [], v, _ => by simp [sp]
  | c :: l, v, h => by
    have ih := sp_cut d l v fun e he => h e (by simp [he])
    have hc : c ≠ d := h c (by simp)
    simp [sp, hc, ih]
theorem sp_len (d : UInt8) (x : List UInt8) : (sp d x).length ≤ x.length + 1 := by
  induction x with
  | nil => simp [sp]
  | cons c l ih =>
    rw [sp]
    split
    · simp; omega
    · split
      · simp
      · rename_i h t e
        rw [e] at ih; simp at ih ⊢; omega
theorem sp_pos (d : UInt8) (x : List UInt8) : 1 ≤ (sp d x).length := by
  have := sp_ne d x
  cases h : sp d x with
  | nil => exact absurd h this
  | cons a l => simp
/-- Every piece is no longer than the text. -/
theorem sp_le (d : UInt8) : ∀ (x : List UInt8), ∀ y ∈ sp d x, y.length ≤ x.length
  | [], y, h => by simp [sp] at h; simp [h]
  | c :: l, y, h => by
    have ih := sp_le d l
    rw [sp] at h
    split at h
    · rcases List.mem_cons.1 h with rfl | h
      · simp
      · have := ih y h; simp; omega
    · split at h
      · simp at h; subst h; simp
      · rename_i u t e
        rcases List.mem_cons.1 h with rfl | h
        · have := ih u (by rw [e]; simp); simp; omega
        · have := ih y (by rw [e]; simp [h]); simp; omega

theorem index_one (d : UInt8) (s : List UInt8) : (Lib.index s [d] = -1 ∧ ∀ c ∈ s, c ≠ d) ∨ ∃ (u v : List UInt8), Lib.index s [d] = u.length ∧ s = u ++ d :: v ∧ ∀ c ∈ u, c ≠ d := by
  rcases Lib.index_spec s [d] with ⟨h1, h2⟩ | ⟨i, h1, h2, h3, h4⟩
  · refine .inl ⟨h1, fun c hc e => ?_⟩
    obtain ⟨k, hk, rfl⟩ := List.getElem_of_mem hc
    have := h2 k (by omega)
    rw [Lib.occAt, List.drop_eq_getElem_cons hk] at this
    simp [List.isPrefixOf, e] at this
  · have hk : i < s.length := by
      rcases Lib.occAt_room h3 with h | h
      · simp at h; omega
      · simp at h
    have hd : s[i] = d := by
      have h3' := h3
      rw [Lib.occAt, List.drop_eq_getElem_cons hk] at h3'
      simp [List.isPrefixOf] at h3'
      exact h3'.symm
    refine .inr ⟨s.take i, s.drop (i + 1), by rw [h1, List.length_take, Nat.min_eq_left (by omega)], ?_, fun c hc e => ?_⟩
    · conv => lhs; rw [← List.take_append_drop i s, List.drop_eq_getElem_cons hk, hd]
    · obtain ⟨k, hk2, rfl⟩ := List.getElem_of_mem hc
      rw [List.length_take] at hk2
      have := h4 k (by omega)
      rw [Lib.occAt, List.drop_eq_getElem_cons (by omega)] at this
      rw [List.getElem_take] at e
      simp [List.isPrefixOf, e] at this

theorem splitK_sp (d : UInt8) : ∀ (n : Nat) (s : List UInt8), s.length ≤ n → Lib.splitK [d] 0 (Lib.count s [d]) s = sp d s := by
  intro n
  induction n with
  | zero =>
    intro s h
    have : s = [] := List.eq_nil_of_length_eq_zero (by omega)
    subst this
    rw [Lib.count_miss (by rfl)]; rfl
  | succ n ih =>
    intro s h
    rcases index_one d s with ⟨h1, h2⟩ | ⟨u, v, h1, h2, h3⟩
    · rw [Lib.count_miss h1, sp_none d s h2]; rfl
    · rw [Lib.count_hit (by simp) h1, Nat.add_comm, Lib.splitK, if_neg (by rw [h1]; simp), h1]
      subst h2
      have hl : v.length ≤ n := by simp at h; omega
      have e1 : (u ++ d :: v).drop (u.length + [d].length) = v := by
        rw [show u.length + [d].length = (u ++ [d]).length from by simp, show u ++ d :: v = (u ++ [d]) ++ v from by simp, List.drop_left]
      have e2 : ((u.length : Int)).toNat = u.length := by omega
      rw [e2, e1, ih v hl, sp_cut d u v h3]
      congr 1
      simp
/-- The library's cutting at a single byte. -/
theorem splitB_sp (d : UInt8) (x : List UInt8) : (Lib.splitB ⟨#[d]⟩ 0 (Lib.countB ⟨x.toArray⟩ ⟨#[d]⟩) ⟨x.toArray⟩) = (sp d x).map fun y => ⟨y.toArray⟩ := by
  have h := Lib.splitB_data ⟨#[d]⟩ 0 (Lib.countB ⟨x.toArray⟩ ⟨#[d]⟩) ⟨x.toArray⟩
  have e : Lib.splitK [d] 0 (Lib.countB ⟨x.toArray⟩ ⟨#[d]⟩) x = sp d x := splitK_sp d x.length x (Nat.le_refl _)
  have h' : (Lib.splitB ⟨#[d]⟩ 0 (Lib.countB ⟨x.toArray⟩ ⟨#[d]⟩) ⟨x.toArray⟩).map (·.data.toList) = sp d x := h.trans e
  rw [← h', List.map_map]
  conv => lhs; rw [← List.map_id (Lib.splitB _ _ _ _)]
  apply List.map_congr_left
  intro b _
  cases b; simp
theorem countB_sp (d : UInt8) (x : List UInt8) : Lib.countB ⟨x.toArray⟩ ⟨#[d]⟩ + 1 = (sp d x).length := by
  have h1 := Lib.splitB_all ⟨#[d]⟩ (Nat.le_refl 1) 0 _ ⟨x.toArray⟩ rfl
  rw [splitB_sp, List.length_map] at h1
  omega

/-- A text cut at its first empty line: what stands ahead, what behind. -/
def cutTwo : List UInt8 → Option (List UInt8 × List UInt8)
  | [] => none
  | c :: l => match c, l with
    | 10, 10 :: v => some ([], v)
    | c, l => match cutTwo l with
      | none => none
      | some (u, v) => some (c :: u, v)
theorem cutTwo_cut : ∀ (s : List UInt8), Lib.cut s [10, 10] = match cutTwo s with
    | none => (s, [], false)
    | some (u, v) => (u, v, true) := by
  intro s
  induction s with
  | nil => rfl
  | cons c l ih =>
    by_cases h : [10, 10].isPrefixOf (c :: l) = true
    · obtain ⟨v, hv⟩ := List.isPrefixOf_iff_prefix.1 h
      have e1 : c = 10 := by simp at hv; exact hv.1.symm
      have e2 : l = 10 :: v := by simp at hv; exact hv.2.symm
      subst e1 e2
      have hi : Lib.index (10 :: 10 :: v) [10, 10] = 0 := by unfold Lib.index; rw [if_pos h]
      simp [Lib.cut, hi, cutTwo]
    · have hc : cutTwo (c :: l) = match cutTwo l with | none => none | some (u, v) => some (c :: u, v) := by
        conv => lhs; unfold cutTwo
        split
        · exact absurd rfl h
        · rfl
      have hi : Lib.index (c :: l) [10, 10] = if Lib.index l [10, 10] == -1 then -1 else Lib.index l [10, 10] + 1 := by
        conv => lhs; unfold Lib.index
        rw [if_neg h]
      rw [hc]
      have hg := Lib.index_ge l [10, 10]
      rw [Lib.cut] at ih
      by_cases hn : Lib.index l [10, 10] = -1
      · rw [if_neg (by omega)] at ih
        have hi' : Lib.index (c :: l) [10, 10] = -1 := by rw [hi, if_pos (by simp [hn])]
        rw [Lib.cut, hi', if_neg (by omega)]
        cases hct : cutTwo l with
        | none => simp
        | some p => obtain ⟨u, v⟩ := p; rw [hct] at ih; simp at ih
      · rw [if_pos (by omega)] at ih
        have hi' : Lib.index (c :: l) [10, 10] = Lib.index l [10, 10] + 1 := by rw [hi, if_neg (by simp [hn])]
        rw [Lib.cut, hi', if_pos (by omega)]
        cases hct : cutTwo l with
        | none => rw [hct] at ih; simp at ih
        | some p =>
          obtain ⟨u, v⟩ := p
          rw [hct] at ih
          simp only [Prod.mk.injEq, and_true] at ih
          obtain ⟨i1, i2⟩ := ih
          have e : (Lib.index l [10, 10] + 1).toNat = (Lib.index l [10, 10]).toNat + 1 := by omega
          simp only [e, List.take_succ_cons, i1]
          rw [show (Lib.index l [10, 10]).toNat + 1 + [(10 : UInt8), 10].length = ((Lib.index l [10, 10]).toNat + [(10 : UInt8), 10].length) + 1 from by omega, List.drop_succ_cons, i2]
end Go.Proofs.YtgdmgmklncmanaaGreatDoor
/- The plain mathematics of versions: what is a version, how two are compared; that the comparison is an order. No program is named here. -/
namespace Go.Proofs.YtgdmgmklncmanaaGreatDoor
namespace Ver

/-! ### Comparisons that answer -1, 0, 1 -/
def cmpI (x y : Int) : Int := if x < y then -1 else if y < x then 1 else 0
def or3 (c d : Int) : Int := if c = 0 then d else c

structure Ord3 {α : Type} (f : α → α → Int) : Prop where
  r : ∀ a b, f a b = -1 ∨ f a b = 0 ∨ f a b = 1
  anti : ∀ a b, f b a = - f a b
  tr : ∀ a b c, f a b ≤ 0 → f b c ≤ 0 → f a c ≤ 0

theorem Ord3.self {α : Type} {f : α → α → Int} (h : Ord3 f) (a : α) : f a a = 0 := by
  have := h.anti a a; omega
theorem Ord3.zero {α : Type} {f : α → α → Int} (h : Ord3 f) {a b : α} (c : α) (e : f a b = 0) : f a c = f b c := by
  have h1 := h.anti a b
  have h2 := h.anti a c
  have h3 := h.anti b c
  have r1 := h.r a c
  have r2 := h.r b c
  have t1 : f b c ≤ 0 → f a c ≤ 0 := h.tr a b c (by omega)
  have t2 : f a c ≤ 0 → f b c ≤ 0 := h.tr b a c (by omega)
  have t3 : f c a ≤ 0 → f c b ≤ 0 := fun x => h.tr c a b x (by omega)
  have t4 : f c b ≤ 0 → f c a ≤ 0 := fun x => h.tr c b a x (by omega)
  omega
theorem Ord3.lex {α : Type} {f g : α → α → Int} (hf : Ord3 f) (hg : Ord3 g) : Ord3 fun a b => or3 (f a b) (g a b) := by
  refine ⟨fun a b => ?_, fun a b => ?_, fun a b c h1 h2 => ?_⟩
  · have := hf.r a b; have := hg.r a b
    simp only [or3]; split <;> omega
  · have := hf.anti a b; have := hg.anti a b
    simp only [or3]; split <;> split <;> omega
  · simp only [or3] at h1 h2 ⊢
    have a1 := hf.anti a b; have a2 := hf.anti b c; have a3 := hf.anti a c
    have t1 := hf.tr a b c
    have t2 := hf.tr b c a
    have t3 := hf.tr c a b
    have u := hg.tr a b c
    split at h1 <;> split at h2 <;> split <;> omega
theorem Ord3.comap {α β : Type} {f : α → α → Int} (hf : Ord3 f) (k : β → α) : Ord3 fun a b => f (k a) (k b) :=
  ⟨fun _ _ => hf.r _ _, fun _ _ => hf.anti _ _, fun _ _ _ => hf.tr _ _ _⟩
theorem ord_nil {α : Type} : Ord3 fun (_ _ : α) => (0 : Int) := ⟨fun _ _ => by simp, fun _ _ => by simp, fun _ _ _ _ _ => by simp⟩
theorem ord_cmpI : Ord3 cmpI := by
  refine ⟨fun a b => ?_, fun a b => ?_, fun a b c => ?_⟩ <;> simp only [cmpI] <;> (repeat' split) <;> omega
theorem cmpI_self (x : Int) : cmpI x x = 0 := by simp [cmpI]

/-- Whether all signs of a text are such. (A plain name, which no rewriting turns.) -/
def allL (f : UInt8 → Bool) (l : List UInt8) : Bool := l.all f

/-! ### Signs -/
def isD (c : UInt8) : Bool := decide (48 ≤ (c.toNat : Int)) && decide ((c.toNat : Int) ≤ 57)
def notD (c : UInt8) : Bool := !isD c
def isL (c : UInt8) : Bool := (decide (97 ≤ (c.toNat : Int)) && decide ((c.toNat : Int) ≤ 122)) || (decide (65 ≤ (c.toNat : Int)) && decide ((c.toNat : Int) ≤ 90))
def isR (c : UInt8) : Bool := isD c || isL c || (c.toNat : Int) == 46 || (c.toNat : Int) == 43 || (c.toNat : Int) == 126
def isM (c : UInt8) : Bool := isR c || (c.toNat : Int) == 45

/-! ### Two rows of signs that are no digits -/
def rkc (c : UInt8) : Int := if (c.toNat : Int) = 126 then -1 else if isL c = true then c.toNat else 256 + (c.toNat : Int)
theorem rkc_1 {c : UInt8} (h : ((c.toNat : Int) == 126) = true) : -1 = rkc c := by simp at h; simp [rkc, h]
theorem rkc_2 {c : UInt8} (h : ((c.toNat : Int) == 126) = false) (h2 : isL c = true) : (c.toNat : Int) = rkc c := by simp at h; simp [rkc, h, h2]
theorem rkc_3 {c : UInt8} (h : ((c.toNat : Int) == 126) = false) (h2 : isL c = false) : 256 + (c.toNat : Int) = rkc c := by simp at h; simp [rkc, h, h2]
def rk : List UInt8 → Int
  | [] => 0
  | c :: _ => rkc c
def signs : Nat → List UInt8 → List UInt8 → Int
  | 0, _, _ => 0
  | n + 1, a, b => or3 (cmpI (rk a) (rk b)) (signs n a.tail b.tail)
theorem ord_signs : ∀ n, Ord3 (signs n)
  | 0 => ord_nil
  | n + 1 => (ord_cmpI.comap rk).lex ((ord_signs n).comap List.tail)
theorem signs_nil : ∀ n, signs n [] [] = 0
  | 0 => rfl
  | n + 1 => by rw [signs]; simp [cmpI_self, or3, signs_nil n]

/-! ### Two rows of digits -/
def kb : List UInt8 → Int
  | [] => -1
  | c :: _ => c.toNat
def lexb : Nat → List UInt8 → List UInt8 → Int
  | 0, _, _ => 0
  | n + 1, a, b => or3 (cmpI (kb a) (kb b)) (lexb n a.tail b.tail)
theorem ord_lexb : ∀ n, Ord3 (lexb n)
  | 0 => ord_nil
  | n + 1 => (ord_cmpI.comap kb).lex ((ord_lexb n).comap List.tail)
theorem lexb_nil : ∀ n, lexb n [] [] = 0
  | 0 => rfl
  | n + 1 => by rw [lexb]; simp [cmpI_self, or3, lexb_nil n]
def trim (l : List UInt8) : List UInt8 := l.dropWhile fun c => c == 48
def nums (a b : List UInt8) : Int := or3 (cmpI (trim a).length (trim b).length) (lexb 25 (trim a) (trim b))
theorem ord_nums : Ord3 nums :=
  (ord_cmpI.comap fun a => ((trim a).length : Int)).lex ((ord_lexb 25).comap trim)
theorem nums_nil : nums [] [] = 0 := by decide

/-! ### Two parts, row by row -/
def pre (f : UInt8 → Bool) (l : List UInt8) : List UInt8 := l.takeWhile f
def suf (f : UInt8 → Bool) (l : List UInt8) : List UInt8 := l.dropWhile f
def parts : Nat → List UInt8 → List UInt8 → Int
  | 0, _, _ => 0
  | n + 1, a, b => or3 (signs 25 (pre notD a) (pre notD b)) (or3 (nums (pre isD (suf notD a)) (pre isD (suf notD b))) (parts n (suf isD (suf notD a)) (suf isD (suf notD b))))
theorem ord_parts : ∀ n, Ord3 (parts n)
  | 0 => ord_nil
  | n + 1 => ((ord_signs 25).comap (pre notD)).lex ((ord_nums.comap fun a => pre isD (suf notD a)).lex ((ord_parts n).comap fun a => suf isD (suf notD a)))
theorem parts_nil : ∀ n, parts n [] [] = 0
  | 0 => rfl
  | n + 1 => by rw [parts]; simp [pre, suf, signs_nil, nums_nil, or3, parts_nil n]

/-! ### A version: its epoch, its main part, its revision -/
structure V where
  e : List UInt8
  m : List UInt8
  r : List UInt8
/-- What stands ahead of the first colon, and behind it. -/
def cutC (l : List UInt8) : List UInt8 × List UInt8 :=
  if l.contains 58 then (l.takeWhile (fun c => c != 58), (l.dropWhile fun c => c != 58).drop 1) else ([48], l)
/-- What stands ahead of the last minus, and behind it. -/
def cutM (l : List UInt8) : List UInt8 × List UInt8 :=
  if l.contains 45 then
    (((l.reverse.dropWhile fun c => c != 45).drop 1).reverse, (l.reverse.takeWhile fun c => c != 45).reverse)
  else (l, [48])
def okE (l : List UInt8) : Bool := decide (1 ≤ l.length) && decide (l.length ≤ 4) && allL isD l
def okM : List UInt8 → Bool
  | [] => false
  | c :: l => isD c && allL isM (c :: l)
def okR : List UInt8 → Bool
  | [] => false
  | l => allL isR l
def split3 (l : List UInt8) : V := ⟨(cutC l).1, (cutM (cutC l).2).1, (cutM (cutC l).2).2⟩
def fine (l : List UInt8) : Bool :=
  decide (1 ≤ l.length) && decide (l.length ≤ 24) && okE (split3 l).e && okM (split3 l).m && okR (split3 l).r
def cmpV (a b : V) : Int := or3 (nums a.e b.e) (or3 (parts 25 a.m b.m) (parts 25 a.r b.r))
theorem ord_cmpV : Ord3 cmpV :=
  (ord_nums.comap V.e).lex (((ord_parts 25).comap V.m).lex ((ord_parts 25).comap V.r))
/-- Compare: the number, the error. -/
def compare (a b : List UInt8) : Int × Int := if fine a && fine b then (cmpV (split3 a) (split3 b), 0) else (0, 2)

end Ver
end Go.Proofs.YtgdmgmklncmanaaGreatDoor
/- The walks over the versions' leaves: which signs may stand where; a sign's rank. -/
namespace Go.Proofs.YtgdmgmklncmanaaGreatDoor
open Go.RowKit

theorem hide {p : Prop} (h : p) : Hid p := h
theorem bytes_ext {a b : ByteArray} (h : a.data.toList = b.data.toList) : a = b := by
  cases a; cases b; simpa [← Array.toList_inj] using h
theorem ext_take (s : ByteArray) (k : Nat) : s.extract 0 k = ⟨(s.data.toList.take k).toArray⟩ := by
  apply bytes_ext; simp [ByteArray.data_extract, Array.toList_extract, List.extract]
theorem ext_drop (s : ByteArray) (k : Nat) : s.extract k s.size = ⟨(s.data.toList.drop k).toArray⟩ := by
  apply bytes_ext; simp [ByteArray.data_extract, Array.toList_extract, List.extract]
  exact List.take_of_length_le (by simp)
theorem ret_str {a b : ByteArray} (h : a = b) : Ending.returned (.string a) = .returned (.string b) := by rw [h]
theorem ret_str2 {a b c d : ByteArray} (h : a = b) (k : c = d) : Ending.returned (.tuple #[.string a, .string c]) = .returned (.tuple #[.string b, .string d]) := by rw [h, k]
theorem ret_bool {a b : Bool} (h : a = b) : Ending.returned (.bool a) = .returned (.bool b) := by rw [h]
theorem ret_int {k : IntKind} {a b : Int} (h : a = b) : Ending.returned (.int k a) = .returned (.int k b) := by rw [h]

set_option maxHeartbeats 400000 in
theorem isDigit_any (c : UInt8) (w : World) :
    Calls Tryz.prog 56 #[.int .u8 c.toNat] w fun e w' => e = .returned (.bool (Ver.isD c)) ∧ w' = w := by
  go_enter Tryz.func56, Tryz.ntmps56
  go_wp2
  all_goals (go_ret; exact ⟨ret_bool (by simp [Ver.isD]; try omega), rfl⟩)

set_option maxHeartbeats 400000 in
theorem isNoDigit_any (c : UInt8) (w : World) :
    Calls Tryz.prog 63 #[.int .u8 c.toNat] w fun e w' => e = .returned (.bool (Ver.notD c)) ∧ w' = w := by
  go_enter Tryz.func63, Tryz.ntmps63
  go_wp2_with (go_at_call 56; refine (isDigit_any c _).mono ?_; rintro e w' ⟨rfl, rfl⟩)
  go_ret
  exact ⟨ret_bool (by simp [Ver.notD]), rfl⟩

set_option maxHeartbeats 400000 in
theorem isLetter_any (c : UInt8) (w : World) :
    Calls Tryz.prog 77 #[.int .u8 c.toNat] w fun e w' => e = .returned (.bool (Ver.isL c)) ∧ w' = w := by
  go_enter Tryz.func77, Tryz.ntmps77
  go_wp2
  all_goals (go_ret; exact ⟨ret_bool (by simp [Ver.isL, *]; try omega), rfl⟩)

set_option maxHeartbeats 400000 in
theorem isRevisionSign_any (c : UInt8) (w : World) :
    Calls Tryz.prog 58 #[.int .u8 c.toNat] w fun e w' => e = .returned (.bool (Ver.isR c)) ∧ w' = w := by
  go_enter Tryz.func58, Tryz.ntmps58
  go_wp2_with (first
    | (go_at_call 56; refine (isDigit_any c _).mono ?_; rintro e w' ⟨rfl, rfl⟩)
    | (go_at_call 77; refine (isLetter_any c _).mono ?_; rintro e w' ⟨rfl, rfl⟩))
  all_goals (go_ret; exact ⟨ret_bool (by simp [Ver.isR, *]; try omega), rfl⟩)

set_option maxHeartbeats 400000 in
theorem isMainSign_any (c : UInt8) (w : World) :
    Calls Tryz.prog 57 #[.int .u8 c.toNat] w fun e w' => e = .returned (.bool (Ver.isM c)) ∧ w' = w := by
  go_enter Tryz.func57, Tryz.ntmps57
  go_wp2_with (go_at_call 58; refine (isRevisionSign_any c _).mono ?_; rintro e w' ⟨rfl, rfl⟩)
  all_goals (go_ret; exact ⟨ret_bool (by simp [Ver.isM, *]), rfl⟩)

set_option maxHeartbeats 400000 in
theorem rank_end (s : ByteArray) (i : Nat) (hi : s.size ≤ i) (w : World) :
    Calls Tryz.prog 84 #[.string s, .int .i64 i] w fun e w' => e = .returned (.int .i64 0) ∧ w' = w := by
  go_enter Tryz.func84, Tryz.ntmps84
  go_wp2
  go_ret
  exact ⟨rfl, rfl⟩

set_option maxHeartbeats 400000 in
theorem rank_in (s : ByteArray) (i : Nat) (hi : i < s.size) (w : World) :
    Calls Tryz.prog 84 #[.string s, .int .i64 i] w fun e w' => e = .returned (.int .i64 (Ver.rkc s[i])) ∧ w' = w := by
  have hb : s[i].toNat < 256 := s[i].toNat_lt
  go_enter Tryz.func84, Tryz.ntmps84
  go_wp2_with (go_at_call 77; refine (isLetter_any s[i] _).mono ?_; rintro e w' ⟨rfl, rfl⟩)
  all_goals (go_ret; exact ⟨ret_int (by first | exact Ver.rkc_1 ‹_› | exact Ver.rkc_2 ‹_› ‹_› | exact Ver.rkc_3 ‹_› ‹_›), rfl⟩)

theorem rk_drop_in {s : ByteArray} {i : Nat} (hi : i < s.size) : Ver.rk (s.data.toList.drop i) = Ver.rkc s[i] := by
  rw [List.drop_eq_getElem_cons (by simpa using hi)]; rfl
theorem rk_drop_end {s : ByteArray} {i : Nat} (hi : s.size ≤ i) : Ver.rk (s.data.toList.drop i) = 0 := by
  rw [List.drop_of_length_le (by simpa using hi)]; rfl
theorem rank_any (s : ByteArray) (i : Nat) (w : World) :
    Calls Tryz.prog 84 #[.string s, .int .i64 i] w fun e w' => e = .returned (.int .i64 (Ver.rk (s.data.toList.drop i))) ∧ w' = w := by
  by_cases h : i < s.size
  · rw [rk_drop_in h]; exact rank_in s i h w
  · rw [rk_drop_end (by omega)]; exact rank_end s i (by omega) w

end Go.Proofs.YtgdmgmklncmanaaGreatDoor
/- The walks over words.All and cutRow: a function value handed in, by its contract. -/
namespace Go.Proofs.YtgdmgmklncmanaaGreatDoor
open Go.RowKit

theorem below_bytesWorld (w : World) (e : TypeId) (s : ByteArray) : Below w.heap.size w (Lib.bytesWorld w e s) := by
  refine ⟨rfl, rfl, rfl, ?_, fun k hk => Lib.bytesWorld_at_old w e s k hk⟩
  rw [Lib.bytesWorld_size]; omega

/-- What turning a text into bytes makes: a new row with the bytes. -/
theorem bytes_made (s : ByteArray) (w : World) : ∃ (w1 : World) (cap : Nat), (convert 9 113 (.string s)).run Tryz.prog w = .ok (.slice (some ⟨w.heap.size, 0, none⟩) s.size cap) w1
    ∧ (∀ j, j < s.size → w1.cell? ⟨w.heap.size, j, none⟩ = some (.int .u8 (s.data.toList.getD j 0).toNat)) ∧ Below w.heap.size w w1 :=
  ⟨_, _, Lib.run_convert_string_bytes w 9 113 5 s Tryz.underlying9 Tryz.underlying113 Tryz.underlying5,
    fun j hj => Lib.bytesWorld_cell w 5 s j hj, below_bytesWorld w 5 s⟩

theorem all_step {f : UInt8 → Bool} {s : ByteArray} {k : Nat} (h : k < s.size) (ha : (s.data.toList.take k).all f = true) (hf : f (s.data[k]'h) = true) : (s.data.toList.take (k + 1)).all f = true := by
  rw [List.take_succ_eq_append_getElem (by simpa using h), List.all_append, ha]; simpa using hf
theorem all_fails {f : UInt8 → Bool} {s : ByteArray} {k : Nat} (h : k < s.size) (hf : f (s.data[k]'h) = false) : Ver.allL f s.data.toList = false := by
  rw [Ver.allL, List.all_eq_false]
  exact ⟨s.data[k]'h, by simp, by simp [hf]⟩
theorem all_whole {f : UInt8 → Bool} {s : ByteArray} {k : Nat} (h : ¬ k < s.size) (ha : (s.data.toList.take k).all f = true) : Ver.allL f s.data.toList = true := by
  rwa [List.take_of_length_le (by simpa using h)] at ha

set_option maxHeartbeats 400000 in
theorem all_any (g : Nat) (f : UInt8 → Bool) (he : ∀ args w, (callFunc g args).run Tryz.prog w = .ok (.enter g args) w)
    (hg : ∀ (c : UInt8) (w : World), Calls Tryz.prog g #[.int .u8 c.toNat] w fun e w' => e = .returned (.bool (f c)) ∧ w' = w)
    (s : ByteArray) (hs : s.size ≤ 140737488355328) (w : World) :
    Calls Tryz.prog 55 #[.string s, .func (.func g) #[] #[]] w fun e w' => e = .returned (.bool (Ver.allL f s.data.toList)) ∧ Below w.heap.size w w' := by
  obtain ⟨w1, cap, hrun, hcell, hb⟩ := bytes_made s w
  have HB := hide hb; clear hb
  go_enter Tryz.func55, Tryz.ntmps55
  go_wp2_with fail
  go_loop [10] (fun i => ∃ k : Nat, k ≤ s.size ∧ i = .int .i64 k ∧ (s.data.toList.take k).all f = true) (fun i => s.size - (intOf i).toNat)
  case atStart => exact ⟨0, Nat.zero_le _, rfl, rfl⟩
  case round =>
    obtain ⟨k, hk, rfl, hall⟩ := hrel
    have HA := hide hall; clear hall
    by_cases hlt : k < s.size
    · have hck := hcell k hlt
      cases hf : f (s.data[k]'hlt)
      · go_wp2_with (refine (hg _ _).mono ?_; rintro e w' ⟨rfl, rfl⟩)
        go_ret
        exact ⟨ret_bool (all_fails hlt hf).symm, HB.out⟩
      · go_wp2_with (refine (hg _ _).mono ?_; rintro e w' ⟨rfl, rfl⟩)
        go_round
        case rel => exact ⟨k + 1, by omega, by go_num, all_step hlt HA.out hf⟩
        case measure => simp [intOf]; omega
    · go_wp2_with fail
      go_ret
      exact ⟨ret_bool (all_whole hlt HA.out).symm, HB.out⟩
theorem enters {f : Func} {K : Nat} {c : Code} (hf : Tryz.prog.funcs[K]? = some f) (hn : (f.name == "runtime.NumGoroutine") = false) (hb : f.body = some c) (args : Array Value) (w : World) : (callFunc K args).run Tryz.prog w = .ok (.enter K args) w := by
  have h1 : f.name ≠ "runtime.NumGoroutine" := by simpa using hn
  simp [callFunc, hf, h1, hb, mark]

theorem row_step {f : UInt8 → Bool} {s : ByteArray} {k : Nat} (h : k < s.size) (ha : (s.data.toList.take k).all f = true) (hf : f s[k] = true) : (s.data.toList.take (k + 1)).all f = true :=
  all_step h ha hf
theorem take_row {f : UInt8 → Bool} {l : List UInt8} {k : Nat} (ha : (l.take k).all f = true) (hf : ∀ h : k < l.length, f l[k] = false) : l.takeWhile f = l.take k ∧ l.dropWhile f = l.drop k := by
  induction l generalizing k with
  | nil => simp
  | cons c l ih =>
    cases k with
    | zero => have := hf (by simp); simp at this; simp [this]
    | succ k =>
      simp only [List.take_succ_cons, List.all_cons, Bool.and_eq_true] at ha
      have := ih ha.2 (fun h => by have := hf (by simpa using h); simpa using this)
      simp [ha.1, this.1, this.2]
theorem row_ends {f : UInt8 → Bool} {s : ByteArray} {k : Nat} (ha : (s.data.toList.take k).all f = true) (hf : ∀ h : k < s.size, f s[k] = false) :
    Ver.pre f s.data.toList = s.data.toList.take k ∧ Ver.suf f s.data.toList = s.data.toList.drop k :=
  take_row ha (fun h => hf (by simpa using h))

set_option maxHeartbeats 400000 in
theorem cutRow_any (g : Nat) (f : UInt8 → Bool) (he : ∀ args w, (callFunc g args).run Tryz.prog w = .ok (.enter g args) w)
    (hg : ∀ (c : UInt8) (w : World), Calls Tryz.prog g #[.int .u8 c.toNat] w fun e w' => e = .returned (.bool (f c)) ∧ w' = w)
    (s : ByteArray) (hs : s.size ≤ 140737488355328) (w : World) :
    Calls Tryz.prog 62 #[.string s, .func (.func g) #[] #[]] w fun e w' =>
      e = .returned (.tuple #[.string ⟨(Ver.pre f s.data.toList).toArray⟩, .string ⟨(Ver.suf f s.data.toList).toArray⟩]) ∧ Below w.heap.size w w' := by
  go_enter Tryz.func62, Tryz.ntmps62
  go_wp2_with fail
  go_loop [6] (fun i => ∃ k : Nat, k ≤ s.size ∧ i = .int .i64 k ∧ (s.data.toList.take k).all f = true) (fun i => s.size - (intOf i).toNat)
  case atStart => exact ⟨0, Nat.zero_le _, rfl, rfl⟩
  case round =>
    obtain ⟨k, hk, rfl, hall⟩ := hrel
    have HA := hide hall; clear hall
    have hk1 : (0 : Int) ≤ k := by omega
    have hk2 : (k : Int) ≤ s.size := by omega
    by_cases hlt : k < s.size
    · cases hf : f s[k]
      · have HE := hide (row_ends HA.out (fun _ => hf))
        go_wp2_with (refine (hg _ _).mono ?_; rintro e w' ⟨rfl, rfl⟩)
        go_region
        all_goals (go_wp2; go_ret2; exact ⟨ret_str2 (by rw [ext_take, HE.out.1]) (by rw [ext_drop, HE.out.2]), (Below.refl _ _).drew⟩)
      · go_wp2_with (refine (hg _ _).mono ?_; rintro e w' ⟨rfl, rfl⟩)
        go_round
        case rel => exact ⟨k + 1, by omega, by go_num, row_step hlt HA.out hf⟩
        case measure => simp [intOf]; omega
    · have HE := hide (row_ends HA.out (fun h => absurd h hlt))
      go_wp2_with fail
      go_region
      all_goals (go_wp2; go_ret2; exact ⟨ret_str2 (by rw [ext_take, HE.out.1]) (by rw [ext_drop, HE.out.2]), (Below.refl _ _).drew⟩)
end Go.Proofs.YtgdmgmklncmanaaGreatDoor
/- The walks over compareSigns, compareNumbers, cmp.Or, cmp.Compare. -/
namespace Go.Proofs.YtgdmgmklncmanaaGreatDoor
open Go.RowKit

theorem cmpI_any (x y : Int) (w : World) : Calls Tryz.prog 60 #[.int .i64 x, .int .i64 y] w fun e w' => e = .returned (.int .i64 (Ver.cmpI x y)) ∧ w' = w :=
  Tryz.cmp_Compare_int x y w

theorem signs_on {a b : List UInt8} {k : Nat} (hk : k < 25) (h : Ver.cmpI (Ver.rk (a.drop k)) (Ver.rk (b.drop k)) = 0) :
    Ver.signs (25 - k) (a.drop k) (b.drop k) = Ver.signs (25 - (k + 1)) (a.drop (k + 1)) (b.drop (k + 1)) := by
  rw [show 25 - k = (25 - (k + 1)) + 1 from by omega, Ver.signs, h]; simp [Ver.or3]
theorem signs_off {a b : List UInt8} {k : Nat} (hk : k < 25) (h : Ver.cmpI (Ver.rk (a.drop k)) (Ver.rk (b.drop k)) ≠ 0) :
    Ver.signs (25 - k) (a.drop k) (b.drop k) = Ver.cmpI (Ver.rk (a.drop k)) (Ver.rk (b.drop k)) := by
  rw [show 25 - k = (25 - (k + 1)) + 1 from by omega, Ver.signs]; simp [Ver.or3, h]
theorem signs_end {a b : ByteArray} {k : Nat} (ha : a.size ≤ k) (hb : b.size ≤ k) : Ver.signs (25 - k) (a.data.toList.drop k) (b.data.toList.drop k) = 0 := by
  rw [List.drop_of_length_le (by simpa using ha), List.drop_of_length_le (by simpa using hb), Ver.signs_nil]

set_option maxHeartbeats 400000 in
theorem signs_any (a b : ByteArray) (ha : a.size ≤ 24) (hb : b.size ≤ 24) (w : World) :
    Calls Tryz.prog 64 #[.string a, .string b] w fun e w' => e = .returned (.int .i64 (Ver.signs 25 a.data.toList b.data.toList)) ∧ w' = w := by
  go_enter Tryz.func64, Tryz.ntmps64
  go_wp2_with fail
  go_loop [12] (fun i => ∃ k : Nat, k ≤ 24 ∧ i = .int .i64 k ∧ Ver.signs 25 a.data.toList b.data.toList = Ver.signs (25 - k) (a.data.toList.drop k) (b.data.toList.drop k)) (fun i => 25 - (intOf i).toNat)
  case atStart => exact ⟨0, Nat.zero_le _, rfl, rfl⟩
  case round =>
    obtain ⟨k, hk, rfl, hs⟩ := hrel
    have HS := hide hs; clear hs
    by_cases hlt : (k : Int) < max (a.size : Int) (b.size : Int)
    · have HL := hide hlt
      by_cases hc : Ver.cmpI (Ver.rk (a.data.toList.drop k)) (Ver.rk (b.data.toList.drop k)) = 0
      · have HC := hide hc
        have hc' : (Ver.cmpI (Ver.rk (a.data.toList.drop k)) (Ver.rk (b.data.toList.drop k)) != 0) = false := by simp [hc]
        clear hc
        go_wp2_with (first
          | (go_at_call_of 84 (Value.string a); refine (rank_any a k _).mono ?_; rintro e w' ⟨rfl, rfl⟩)
          | (go_at_call_of 84 (Value.string b); refine (rank_any b k _).mono ?_; rintro e w' ⟨rfl, rfl⟩)
          | (go_at_call 60; refine (cmpI_any _ _ _).mono ?_; rintro e w' ⟨rfl, rfl⟩))
        go_round
        case rel => exact ⟨k + 1, by omega, by go_num, by rw [HS.out, signs_on (by omega) HC.out]⟩
        case measure => simp [intOf]; omega
      · have HC := hide hc
        have hc' : (Ver.cmpI (Ver.rk (a.data.toList.drop k)) (Ver.rk (b.data.toList.drop k)) != 0) = true := by simp [hc]
        clear hc
        go_wp2_with (first
          | (go_at_call_of 84 (Value.string a); refine (rank_any a k _).mono ?_; rintro e w' ⟨rfl, rfl⟩)
          | (go_at_call_of 84 (Value.string b); refine (rank_any b k _).mono ?_; rintro e w' ⟨rfl, rfl⟩)
          | (go_at_call 60; refine (cmpI_any _ _ _).mono ?_; rintro e w' ⟨rfl, rfl⟩))
        go_ret
        exact ⟨ret_int (by rw [HS.out, signs_off (by omega) HC.out]), rfl⟩
    · go_wp2_with fail
      go_ret
      exact ⟨ret_int (by rw [HS.out, signs_end (by omega) (by omega)]), rfl⟩
end Go.Proofs.YtgdmgmklncmanaaGreatDoor
