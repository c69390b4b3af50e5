/- What a name, a path and a word are. Plain mathematics. -/
import Derived.Test.YtgdmgmklncmanaaGreatDoorVerMath
import Derived.Lib.Strings
import Derived.Lib.IndexMore
namespace Go.Proofs.YtgdmgmklncmanaaGreatDoor
namespace Wd
open Ver

def low (c : UInt8) : Bool := decide (97 ≤ (c.toNat : Int)) && decide ((c.toNat : Int) ≤ 122)
def nmS (c : UInt8) : Bool := low c || (decide (48 ≤ (c.toNat : Int)) && decide ((c.toNat : Int) ≤ 57)) || (c.toNat : Int) == 45
def paS (c : UInt8) : Bool := nmS c || (c.toNat : Int) == 46 || (c.toNat : Int) == 47
def woS (c : UInt8) : Bool := decide (33 ≤ (c.toNat : Int)) && decide ((c.toNat : Int) ≤ 126)
def lenIn (x : List UInt8) (a b : Nat) : Bool := decide (a ≤ x.length) && decide (x.length ≤ b)
def headIs (f : UInt8 → Bool) : List UInt8 → Bool
  | [] => false
  | c :: _ => f c
def isName (x : List UInt8) : Bool := lenIn x 1 12 && headIs low x && allL nmS x
def isWord (x : List UInt8) : Bool := lenIn x 1 16 && allL woS x
def under (x : List UInt8) : Bool := Lib.hasPrefix x [47, 118, 97, 114, 47]
def dbl (x : List UInt8) : Bool := Lib.contains x [47, 47]
def lastOf (x : List UInt8) : UInt8 := x.getLastD 0
def isPath (x : List UInt8) : Bool := lenIn x 2 24 && headIs (fun c => (c.toNat : Int) == 47) x && (lastOf x != 47) && !dbl x && allL paS x
def isVar (x : List UInt8) : Bool := isPath x && under x
end Wd
end Go.Proofs.YtgdmgmklncmanaaGreatDoor
