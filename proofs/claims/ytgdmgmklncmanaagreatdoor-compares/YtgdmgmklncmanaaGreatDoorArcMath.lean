/- What an archive says: the program's own reading, as plain mathematics. -/
import Derived.Test.YtgdmgmklncmanaaGreatDoorSplMath
import Derived.Test.YtgdmgmklncmanaaGreatDoorArcW1
namespace Go.Proofs.YtgdmgmklncmanaaGreatDoor
namespace Arc
abbrev S := List UInt8

theorem spl_sp : ∀ x : S, spl x = sp 32 x
  | [] => rfl
  | c :: l => by
    rw [spl, sp, spl_sp l]
    cases sp 32 l <;> rfl

/-! ### Commands -/
structure Cmd where
  verb : Int
  path : S
  word : S
  frm : S
def Cmd.zero : Cmd := ⟨0, [], [], []⟩
/-- Of a command's words: which word it is; 0: none. -/
def vb (x : S) : Int :=
  if x == [112, 117, 116] then 1 else if x == [97, 100, 100] then 2 else if x == [99, 111, 112, 121] then 3 else if x == [100, 114, 111, 112] then 4 else if x == [108, 105, 115, 116] then 5 else 0
def pcmd : List S → Cmd × Bool
  | v :: p :: rest =>
    if vb v = 1 ∨ vb v = 2 then match rest with
      | [q] => if Wd.isWord q && Wd.isVar p then (⟨vb v, p, q, []⟩, true) else (.zero, false)
      | _ => (.zero, false)
    else if vb v = 3 then match rest with
      | [q] => if Wd.isPath p && Wd.isVar q then (⟨vb v, q, [], p⟩, true) else (.zero, false)
      | _ => (.zero, false)
    else if vb v = 4 ∨ vb v = 5 then match rest with
      | [] => if Wd.isVar p then (⟨vb v, p, [], []⟩, true) else (.zero, false)
      | _ => (.zero, false)
    else (.zero, false)
  | _ => (.zero, false)

/-! ### Lines: what has been read, and the contents that no file has taken yet -/
structure St where
  needs : List (S × S)
  breaks : List S
  wakes : List S
  files : List (S × S)
  runs : List Cmd
  wokens : List Cmd
  left : S
def St.of (c : S) : St := ⟨[], [], [], [], [], [], c⟩

variable (short : S → S)
/-- One line more, of a kind, behind its first word. -/
def pline (st : St) (k : Int) (rest : List S) : Option St :=
  if k = 1 then match rest with
    | [n] => if Wd.isName n then some { st with needs := st.needs ++ [(n, [])] } else none
    | [n, v] => if Ver.fine v && Wd.isName n then some { st with needs := st.needs ++ [(n, v)] } else none
    | _ => none
  else if k = 2 then match rest with
    | [n] => if Wd.isName n then some { st with breaks := st.breaks ++ [n] } else none
    | _ => none
  else if k = 3 then match rest with
    | [p] => if Wd.isPath p then some { st with wakes := st.wakes ++ [p] } else none
    | _ => none
  else if k = 4 then match rest with
    | [p, z, h] =>
      if 0 ≤ sz z ∧ sz z ≤ st.left.length ∧ Wd.isPath p = true ∧ Wd.under p = false ∧ (st.files.any fun f => f.1 == p) = false ∧ short (st.left.take (sz z).toNat) = h then
        some { st with files := st.files ++ [(p, st.left.take (sz z).toNat)], left := st.left.drop (sz z).toNat } else none
    | _ => none
  else if k = 5 then if (pcmd rest).2 = true ∧ (pcmd rest).1.verb ≠ 5 then some { st with runs := st.runs ++ [(pcmd rest).1] } else none
  else if k = 6 then if (pcmd rest).2 = true then some { st with wokens := st.wokens ++ [(pcmd rest).1] } else none
  else none

/-- All lines behind the first three; the last one's kind. -/
def pbody (st : St) (last : Int) : List S → Option St
  | [] => some st
  | l :: ls =>
    if kd (sp 32 l).head! = 0 ∨ kd (sp 32 l).head! < last then none else
      match pline short st (kd (sp 32 l).head!) (sp 32 l).tail with
      | none => none
      | some st' => pbody st' (kd (sp 32 l).head!) ls

/-- A text behind a beginning; without it: the text. -/
def behind (p x : S) : S := if p.isPrefixOf x then x.drop p.length else x
def wHaven : S := [104, 97, 118, 101, 110, 32, 49]
def wName : S := [110, 97, 109, 101, 32]
def wVersion : S := [118, 101, 114, 115, 105, 111, 110, 32]
/-- The first three lines. -/
def headOk (a b c : S) : Bool :=
  (a == wHaven) && wName.isPrefixOf b && wVersion.isPrefixOf c && Wd.isName (behind wName b) && Ver.fine (behind wVersion c)

/-- Name, version, and the rest of an archive. -/
def parse (x : S) : Option (S × S × St) :=
  if 2000 < x.length then none else
  match cutTwo x with
  | none => none
  | some (head, contents) =>
    match sp 10 head with
    | a :: b :: c :: ls =>
      if 21 < ls.length then none
      else if headOk a b c = true then
        match pbody short (.of contents) 0 ls with
        | none => none
        | some st => if st.left = [] then some (behind wName b, behind wVersion c, st) else none
      else none
    | _ => none
end Arc
end Go.Proofs.YtgdmgmklncmanaaGreatDoor
