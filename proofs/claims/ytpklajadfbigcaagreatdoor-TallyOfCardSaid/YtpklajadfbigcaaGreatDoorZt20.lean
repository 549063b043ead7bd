import Derived.Test.YtpklajadfbigcaaGreatDoorZt19
import Derived.Test.YtpklajadfbigcaaGreatDoorZt15
import Derived.Test.YtpklajadfbigcaaGreatDoorZt13
import Derived.Deep.MidRow
set_option linter.unusedSimpArgs false
set_option linter.unusedVariables false
namespace Go.Proofs.YtpklajadfbigcaaGreatDoor
open Go.RowKit

end Go.Proofs.YtpklajadfbigcaaGreatDoor
namespace Go.Proofs.YtpklajadfbigcaaGreatDoor
open Go.RowKit

inductive Pm where
  | mk (kind : Nat) (col : ByteArray) (rel : Nat) (val : Vl) (oth : ByteArray) (la : Ptr) (lc : Nat) (list : List Vl) (ka : Ptr) (kc : Nat) (kids : List Pm) (pos : Nat)
mutual
def Pm.e : Pm → Prd
  | .mk k c r v o _ _ l _ _ ks p => .mk k c r v o l (Pm.es ks) p
def Pm.es : List Pm → List Prd
  | [] => []
  | x :: r => x.e :: Pm.es r
end
def Pm.none : Pm := .mk 0 ⟨#[]⟩ 0 ⟨0, 0, ⟨#[]⟩⟩ ⟨#[]⟩ Option.none 0 [] Option.none 0 [] 0
instance : Inhabited Pm := ⟨Pm.none⟩
def Pm.c : Pm → List Value
  | .mk k c r v o la lc l ka kc ks p => [.int .i64 k, .string c, .int .i64 r, .int .i64 v.k, .int .i64 v.n, .string v.s, .string o, .slice la l.length lc, .slice ka ks.length kc, .int .i64 p]
def Pm.v (x : Pm) : Value := .agg x.c.toArray
def Pm.kids : Pm → List Pm | .mk _ _ _ _ _ _ _ _ _ _ ks _ => ks
theorem Pm.c_len : ∀ x : Pm, x.c.length = 10 | .mk .. => rfl
def CellsS (S : Nat → Prop) (w : World) (a : Ptr) (xs : List Value) : Prop := xs = [] ∨ ∃ b off, a = some ⟨b, off, Option.none⟩ ∧ S b ∧ b < w.heap.size ∧ ∀ j u, xs[j]? = some u → w.cell? ⟨b, off + j, Option.none⟩ = some u
theorem CellsS.keep {S : Nat → Prop} {w w' : World} {a : Ptr} {xs : List Value} (h : CellsS S w a xs) (hk : Stays S w w') : CellsS S w' a xs :=
  h.imp id fun ⟨b, off, e, hs, hlt, hc⟩ => ⟨b, off, e, hs, Nat.lt_of_lt_of_le hlt hk.1, fun j u hj => (World.cell?_of_block (a := ⟨b, _, Option.none⟩) (hk.2 b hs hlt)).trans (hc j u hj)⟩
theorem CellsS.mono {S S' : Nat → Prop} {w : World} {a : Ptr} {xs : List Value} (h : CellsS S w a xs) (hs : ∀ b, b < w.heap.size → S b → S' b) : CellsS S' w a xs :=
  h.imp id fun ⟨b, off, e, h1, h2, hc⟩ => ⟨b, off, e, hs b h2 h1, h2, hc⟩
mutual
def PmS (S : Nat → Prop) (w : World) : Pm → Prop
  | .mk _ _ _ _ _ la lc l ka kc ks _ => RwS S w la l ∧ l.length ≤ lc ∧ CellsS S w ka (ks.flatMap Pm.c) ∧ ks.length ≤ kc ∧ PmSs S w ks
def PmSs (S : Nat → Prop) (w : World) : List Pm → Prop
  | [] => True
  | x :: r => PmS S w x ∧ PmSs S w r
end
theorem PmSs_iff {S : Nat → Prop} {w : World} (l : List Pm) : PmSs S w l ↔ ∀ x ∈ l, PmS S w x := by
  induction l with
  | nil => simp [PmSs]
  | cons x r ih => simp [PmSs, ih]
mutual
theorem PmS.keep {S : Nat → Prop} {w w' : World} (hk : Stays S w w') : ∀ {x : Pm}, PmS S w x → PmS S w' x
  | .mk _ _ _ _ _ _ _ _ _ _ _ _, ⟨a, b, c, d, e⟩ => ⟨a.keep hk, b, c.keep hk, d, PmSs.keep hk e⟩
theorem PmSs.keep {S : Nat → Prop} {w w' : World} (hk : Stays S w w') : ∀ {x : List Pm}, PmSs S w x → PmSs S w' x
  | [], _ => trivial
  | _ :: _, ⟨a, b⟩ => ⟨PmS.keep hk a, PmSs.keep hk b⟩
end
mutual
theorem PmS.mono {S S' : Nat → Prop} {w : World} (hs : ∀ b, b < w.heap.size → S b → S' b) : ∀ {x : Pm}, PmS S w x → PmS S' w x
  | .mk _ _ _ _ _ _ _ _ _ _ _ _, ⟨a, b, c, d, e⟩ => ⟨a.mono hs, b, c.mono hs, d, PmSs.mono hs e⟩
theorem PmSs.mono {S S' : Nat → Prop} {w : World} (hs : ∀ b, b < w.heap.size → S b → S' b) : ∀ {x : List Pm}, PmSs S w x → PmSs S' w x
  | [], _ => trivial
  | _ :: _, ⟨a, b⟩ => ⟨PmS.mono hs a, PmSs.mono hs b⟩
end
theorem RwS.nil (S : Nat → Prop) (w : World) (a : Ptr) : RwS S w a [] := ⟨by simp, by simp, .inl rfl⟩
end Go.Proofs.YtpklajadfbigcaaGreatDoor
