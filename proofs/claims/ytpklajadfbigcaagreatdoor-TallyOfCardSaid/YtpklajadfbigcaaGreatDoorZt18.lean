import Derived.Test.YtpklajadfbigcaaGreatDoorZt16
import Derived.Test.YtpklajadfbigcaaGreatDoorZt17
import Derived.Test.YtpklajadfbigcaaGreatDoorZt02
set_option linter.unusedSimpArgs false
set_option linter.unusedVariables false
namespace Go.Proofs.YtpklajadfbigcaaGreatDoor
open Go.RowKit

end Go.Proofs.YtpklajadfbigcaaGreatDoor
namespace Go.Proofs.YtpklajadfbigcaaGreatDoor
open Go.RowKit

end Go.Proofs.YtpklajadfbigcaaGreatDoor
namespace Go.Proofs.YtpklajadfbigcaaGreatDoor
open Go.RowKit

end Go.Proofs.YtpklajadfbigcaaGreatDoor
namespace Go.Proofs.YtpklajadfbigcaaGreatDoor
open Go.RowKit

theorem grown_below6 {w w' : World} (h : Below w.heap.size w w') (row : Option Nat) : w.grownBy w' row := ⟨h.os, h.tape, h.output, h.size, fun i hi _ => h.block i hi⟩
structure Vv where
  k : Int
  n : Int
  s : ByteArray
instance : Inhabited Vv := ⟨⟨0, 0, ⟨#[]⟩⟩⟩
def Vv.good (v : Vv) : Bool := goodB v.k v.n v.s
def holdsB (c : Cl) (v : Vv) : Bool := v.good && (decide (v.k = c.k) || (decide (v.k = 0) && c.b))
end Go.Proofs.YtpklajadfbigcaaGreatDoor
namespace Go.Proofs.YtpklajadfbigcaaGreatDoor
open Go.RowKit

structure Rw where
  a : Ptr
  cap : Nat
  l : List Vl
instance : Inhabited Rw := ⟨⟨none, 0, []⟩⟩
def Rw.v (x : Rw) : Value := .slice x.a x.l.length x.cap
end Go.Proofs.YtpklajadfbigcaaGreatDoor
