/- The plain mathematics of versions: what is a version, how two are compared; that the comparison is an order. No program is named here. -/
namespace Go.Proofs.YtenahjbofhkinaaDoor
namespace Ver

/-! ### Comparisons that answer -1, 0, 1 -/
def cmpI (x y : Int) : Int := if x < y then -1 else if y < x then 1 else 0
def or3 (c d : Int) : Int := if c = 0 then d else c

structure Ord3 {α : Type} (f : α → α → Int) : Prop where
  r : ∀ a b, f a b = -1 ∨ f a b = 0 ∨ f a b = 1
  anti : ∀ a b, f b a = - f a b
  tr : ∀ a b c, f a b ≤ 0 → f b c ≤ 0 → f a c ≤ 0

theorem Ord3.self {α : Type} {f : α → α → Int} (h : Ord3 f) (a : α) : f a a = 0 := by
  have := h.anti a a; omega
theorem Ord3.zero {α : Type} {f : α → α → Int} (h : Ord3 f) {a b : α} (c : α) (e : f a b = 0) : f a c = f b c := by
  have h1 := h.anti a b
  have h2 := h.anti a c
  have h3 := h.anti b c
  have r1 := h.r a c
  have r2 := h.r b c
  have t1 : f b c ≤ 0 → f a c ≤ 0 := h.tr a b c (by omega)
  have t2 : f a c ≤ 0 → f b c ≤ 0 := h.tr b a c (by omega)
  have t3 : f c a ≤ 0 → f c b ≤ 0 := fun x => h.tr c a b x (by omega)
  have t4 : f c b ≤ 0 → f c a ≤ 0 := fun x => h.tr c b a x (by omega)
  omega
theorem Ord3.lex {α : Type} {f g : α → α → Int} (hf : Ord3 f) (hg : Ord3 g) : Ord3 fun a b => or3 (f a b) (g a b) := by
  refine ⟨fun a b => ?_, fun a b => ?_, fun a b c h1 h2 => ?_⟩
  · have := hf.r a b; have := hg.r a b
    simp only [or3]; split <;> omega
  · have := hf.anti a b; have := hg.anti a b
    simp only [or3]; split <;> split <;> omega
  · simp only [or3] at h1 h2 ⊢
    have a1 := hf.anti a b; have a2 := hf.anti b c; have a3 := hf.anti a c
    have t1 := hf.tr a b c
    have t2 := hf.tr b c a
    have t3 := hf.tr c a b
    have u := hg.tr a b c
    split at h1 <;> split at h2 <;> split <;> omega
theorem Ord3.comap {α β : Type} {f : α → α → Int} (hf : Ord3 f) (k : β → α) : Ord3 fun a b => f (k a) (k b) :=
  ⟨fun _ _ => hf.r _ _, fun _ _ => hf.anti _ _, fun _ _ _ => hf.tr _ _ _⟩
theorem ord_nil {α : Type} : Ord3 fun (_ _ : α) => (0 : Int) := ⟨fun _ _ => by simp, fun _ _ => by simp, fun _ _ _ _ _ => by simp⟩
theorem ord_cmpI : Ord3 cmpI := by
  refine ⟨fun a b => ?_, fun a b => ?_, fun a b c => ?_⟩ <;> simp only [cmpI] <;> (repeat' split) <;> omega
theorem cmpI_self (x : Int) : cmpI x x = 0 := by simp [cmpI]

/-- Whether all signs of a text are such. (A plain name, which no rewriting turns.) -/
def allL (f : UInt8 → Bool) (l : List UInt8) : Bool := l.all f

/-! ### Signs -/
def isD (c : UInt8) : Bool := decide (48 ≤ (c.toNat : Int)) && decide ((c.toNat : Int) ≤ 57)
def notD (c : UInt8) : Bool := !isD c
def isL (c : UInt8) : Bool := (decide (97 ≤ (c.toNat : Int)) && decide ((c.toNat : Int) ≤ 122)) || (decide (65 ≤ (c.toNat : Int)) && decide ((c.toNat : Int) ≤ 90))
def isR (c : UInt8) : Bool := isD c || isL c || (c.toNat : Int) == 46 || (c.toNat : Int) == 43 || (c.toNat : Int) == 126
def isM (c : UInt8) : Bool := isR c || (c.toNat : Int) == 45

/-! ### Two rows of signs that are no digits -/
def rkc (c : UInt8) : Int := if (c.toNat : Int) = 126 then -1 else if isL c = true then c.toNat else 256 + (c.toNat : Int)
theorem rkc_1 {c : UInt8} (h : ((c.toNat : Int) == 126) = true) : -1 = rkc c := by simp at h; simp [rkc, h]
theorem rkc_2 {c : UInt8} (h : ((c.toNat : Int) == 126) = false) (h2 : isL c = true) : (c.toNat : Int) = rkc c := by simp at h; simp [rkc, h, h2]
theorem rkc_3 {c : UInt8} (h : ((c.toNat : Int) == 126) = false) (h2 : isL c = false) : 256 + (c.toNat : Int) = rkc c := by simp at h; simp [rkc, h, h2]
def rk : List UInt8 → Int
  | [] => 0
  | c :: _ => rkc c
def signs : Nat → List UInt8 → List UInt8 → Int
  | 0, _, _ => 0
  | n + 1, a, b => or3 (cmpI (rk a) (rk b)) (signs n a.tail b.tail)
theorem ord_signs : ∀ n, Ord3 (signs n)
  | 0 => ord_nil
  | n + 1 => (ord_cmpI.comap rk).lex ((ord_signs n).comap List.tail)
theorem signs_nil : ∀ n, signs n [] [] = 0
  | 0 => rfl
  | n + 1 => by rw [signs]; simp [cmpI_self, or3, signs_nil n]

/-! ### Two rows of digits -/
def kb : List UInt8 → Int
  | [] => -1
  | c :: _ => c.toNat
def lexb : Nat → List UInt8 → List UInt8 → Int
  | 0, _, _ => 0
  | n + 1, a, b => or3 (cmpI (kb a) (kb b)) (lexb n a.tail b.tail)
theorem ord_lexb : ∀ n, Ord3 (lexb n)
  | 0 => ord_nil
  | n + 1 => (ord_cmpI.comap kb).lex ((ord_lexb n).comap List.tail)
theorem lexb_nil : ∀ n, lexb n [] [] = 0
  | 0 => rfl
  | n + 1 => by rw [lexb]; simp [cmpI_self, or3, lexb_nil n]
def trim (l : List UInt8) : List UInt8 := l.dropWhile fun c => c == 48
def nums (a b : List UInt8) : Int := or3 (cmpI (trim a).length (trim b).length) (lexb 25 (trim a) (trim b))
theorem ord_nums : Ord3 nums :=
  (ord_cmpI.comap fun a => ((trim a).length : Int)).lex ((ord_lexb 25).comap trim)
theorem nums_nil : nums [] [] = 0 := by decide

/-! ### Two parts, row by row -/
def pre (f : UInt8 → Bool) (l : List UInt8) : List UInt8 := l.takeWhile f
def suf (f : UInt8 → Bool) (l : List UInt8) : List UInt8 := l.dropWhile f
def parts : Nat → List UInt8 → List UInt8 → Int
  | 0, _, _ => 0
  | n + 1, a, b => or3 (signs 25 (pre notD a) (pre notD b)) (or3 (nums (pre isD (suf notD a)) (pre isD (suf notD b))) (parts n (suf isD (suf notD a)) (suf isD (suf notD b))))
theorem ord_parts : ∀ n, Ord3 (parts n)
  | 0 => ord_nil
  | n + 1 => ((ord_signs 25).comap (pre notD)).lex ((ord_nums.comap fun a => pre isD (suf notD a)).lex ((ord_parts n).comap fun a => suf isD (suf notD a)))
theorem parts_nil : ∀ n, parts n [] [] = 0
  | 0 => rfl
  | n + 1 => by rw [parts]; simp [pre, suf, signs_nil, nums_nil, or3, parts_nil n]

/-! ### A version: its epoch, its main part, its revision -/
structure V where
  e : List UInt8
  m : List UInt8
  r : List UInt8
/-- What stands ahead of the first colon, and behind it. -/
def cutC (l : List UInt8) : List UInt8 × List UInt8 :=
  if l.contains 58 then (l.takeWhile (fun c => c != 58), (l.dropWhile fun c => c != 58).drop 1) else ([48], l)
/-- What stands ahead of the last minus, and behind it. -/
def cutM (l : List UInt8) : List UInt8 × List UInt8 :=
  if l.contains 45 then
    (((l.reverse.dropWhile fun c => c != 45).drop 1).reverse, (l.reverse.takeWhile fun c => c != 45).reverse)
  else (l, [48])
def okE (l : List UInt8) : Bool := decide (1 ≤ l.length) && decide (l.length ≤ 4) && allL isD l
def okM : List UInt8 → Bool
  | [] => false
  | c :: l => isD c && allL isM (c :: l)
def okR : List UInt8 → Bool
  | [] => false
  | l => allL isR l
def split3 (l : List UInt8) : V := ⟨(cutC l).1, (cutM (cutC l).2).1, (cutM (cutC l).2).2⟩
def fine (l : List UInt8) : Bool :=
  decide (1 ≤ l.length) && decide (l.length ≤ 24) && okE (split3 l).e && okM (split3 l).m && okR (split3 l).r
def cmpV (a b : V) : Int := or3 (nums a.e b.e) (or3 (parts 25 a.m b.m) (parts 25 a.r b.r))
theorem ord_cmpV : Ord3 cmpV :=
  (ord_nums.comap V.e).lex (((ord_parts 25).comap V.m).lex ((ord_parts 25).comap V.r))
/-- Compare: the number, the error. -/
def compare (a b : List UInt8) : Int × Int := if fine a && fine b then (cmpV (split3 a) (split3 b), 0) else (0, 2)

end Ver
end Go.Proofs.YtenahjbofhkinaaDoor
