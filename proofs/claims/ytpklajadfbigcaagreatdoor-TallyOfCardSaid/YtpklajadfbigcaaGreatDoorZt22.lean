import Derived.Test.YtpklajadfbigcaaGreatDoorZt20
import Derived.Test.YtpklajadfbigcaaGreatDoorZt12
import Derived.Test.YtpklajadfbigcaaGreatDoorZt19
import Derived.Test.YtpklajadfbigcaaGreatDoorZt02
import Derived.Test.YtpklajadfbigcaaGreatDoorZt14
import Derived.Test.YtpklajadfbigcaaGreatDoorZt15
import Derived.Deep.DeepCutAuto
import Derived.Great.BuildSlice
import Derived.Deep.WholeRow
set_option linter.unusedSimpArgs false
set_option linter.unusedVariables false
namespace Go.Proofs.YtpklajadfbigcaaGreatDoor
open Go.RowKit

end Go.Proofs.YtpklajadfbigcaaGreatDoor
namespace Go.Proofs.YtpklajadfbigcaaGreatDoor
open Go.RowKit

theorem grown_cellR (w : World) (g i : Nat) (u : Value) : w.grownBy (w.setCell ⟨g, i, none⟩ u) (some g) := ⟨rfl, rfl, rfl, by simp [World.setCell], fun _ _ hne => Below.heap_setCell _ _ _ _ (fun e => hne (by rw [e]))⟩
-- {w w' : World} (h : w.grownBy w' none) (row : Option Nat) : w.grownBy w' row := ⟨h.os, h.tape, h.output, h.size, fun i hi _ => h.block i hi (by simp)⟩
end Go.Proofs.YtpklajadfbigcaaGreatDoor
namespace Go.Proofs.YtpklajadfbigcaaGreatDoor

def Pm.z (p : Bool) (x : Pm) : Prd := if p then x.e else x.e.e
structure Psl where
  a : Ptr
  c : Nat
  l : List Pm
instance : Inhabited Psl := ⟨⟨Option.none, 0, []⟩⟩
def Psl.v (x : Psl) : Value := .slice x.a x.l.length x.c
def Pm.ksl : Pm → Psl | .mk _ _ _ _ _ _ _ _ ka kc ks _ => ⟨ka, kc, ks⟩
def Psl.in (S : Nat → Prop) (w : World) (x : Psl) : Prop := CellsS S w x.a (x.l.flatMap Pm.c) ∧ x.l.length ≤ x.c ∧ PmSs S w x.l
theorem Pm.ksl_in {S : Nat → Prop} {w : World} : ∀ {x : Pm}, PmS S w x → x.ksl.in S w
  | .mk .., h => ⟨h.2.2.1, h.2.2.2.1, h.2.2.2.2⟩
theorem Psl.in.keep {S : Nat → Prop} {w w' : World} {x : Psl} (h : x.in S w) (hk : Stays S w w') : x.in S w' := ⟨h.1.keep hk, h.2.1, h.2.2.keep hk⟩
mutual
def Pm.n : Pm → Nat
  | .mk _ _ _ _ _ _ _ _ _ _ ks _ => 1 + Pm.ns ks
def Pm.ns : List Pm → Nat
  | [] => 0
  | x :: r => x.n + Pm.ns r
end
end Go.Proofs.YtpklajadfbigcaaGreatDoor
namespace Go.Proofs.YtpklajadfbigcaaGreatDoor
open Go.RowKit

end Go.Proofs.YtpklajadfbigcaaGreatDoor
namespace Go.Proofs.YtpklajadfbigcaaGreatDoor
open Go.RowKit

end Go.Proofs.YtpklajadfbigcaaGreatDoor
