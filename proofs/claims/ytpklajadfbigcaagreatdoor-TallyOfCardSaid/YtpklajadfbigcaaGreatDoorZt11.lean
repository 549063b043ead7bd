import Derived.Test.YtpklajadfbigcaaGreatDoorZt10
import Derived.Deep.QuietTactic
import Derived.BigQuiet
import Derived.IntWalk
set_option linter.unusedSimpArgs false
set_option linter.unusedVariables false
namespace Go.Proofs.YtpklajadfbigcaaGreatDoor
open Go.RowKit

def intC (l : List UInt8) : Nat := if wrB l then (if inI (ival l) then 0 else 1) else 2
def textC (o : Option (List UInt8)) : Nat := match o with | none => 2 | some t => if t.length ≤ 60 then 0 else 1
def readC (l : List UInt8) : Nat :=
  if l = [78, 85, 76, 76] then 0 else if l = [70, 65, 76, 83, 69] then 0 else if l = [84, 82, 85, 69] then 0
  else match l with
    | c :: r => if c = 39 then textC (readB r) else intC (c :: r)
    | [] => intC []
def words : List (List UInt8) := [[83, 69, 76, 69, 67, 84], [70, 82, 79, 77], [87, 72, 69, 82, 69], [71, 82, 79, 85, 80], [79, 82, 68, 69, 82], [66, 89], [76, 73, 77, 73, 84], [65, 83, 67], [68, 69, 83, 67],
  [65, 78, 68], [79, 82], [78, 79, 84], [73, 83], [73, 78], [66, 69, 84, 87, 69, 69, 78], [78, 85, 76, 76], [84, 82, 85, 69], [70, 65, 76, 83, 69], [67, 79, 85, 78, 84], [83, 85, 77], [77, 73, 78], [77, 65, 88]]
def wordB (l : List UInt8) : Bool := words.contains l
def nameL (l : List UInt8) : Bool := nameB ⟨l.toArray⟩
structure Tk where
  kind : Nat
  text : ByteArray
  pos : Nat
end Go.Proofs.YtpklajadfbigcaaGreatDoor
namespace Go.Proofs.YtpklajadfbigcaaGreatDoor
open Go.RowKit

end Go.Proofs.YtpklajadfbigcaaGreatDoor
namespace Go.Proofs.YtpklajadfbigcaaGreatDoor
open Go.RowKit

theorem grown_refl6 (w : World) (row : Option Nat) : w.grownBy w row := ⟨rfl, rfl, rfl, Nat.le_refl _, fun _ _ _ => rfl⟩
theorem grown_drewN6 {w w' : World} {row : Option Nat} (h : w.grownBy w' row) (n : Nat) : w.grownBy (w'.drewN n) row := ⟨h.os, h.tape, h.output, h.size, h.block⟩
end Go.Proofs.YtpklajadfbigcaaGreatDoor
namespace Go.Proofs.YtpklajadfbigcaaGreatDoor
open Go.RowKit

end Go.Proofs.YtpklajadfbigcaaGreatDoor
namespace Go.Proofs.YtpklajadfbigcaaGreatDoor
open Go.RowKit

end Go.Proofs.YtpklajadfbigcaaGreatDoor
