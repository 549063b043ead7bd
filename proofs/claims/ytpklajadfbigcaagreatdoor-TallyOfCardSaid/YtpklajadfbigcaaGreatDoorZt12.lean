import Derived.Test.YtpklajadfbigcaaGreatDoorZt11
import Derived.Test.YtpklajadfbigcaaGreatDoorZt07
import Derived.Deep.DeepCutAuto
set_option linter.unusedSimpArgs false
set_option linter.unusedVariables false
namespace Go.Proofs.YtpklajadfbigcaaGreatDoor

structure Itm where
  agg : Nat
  col : ByteArray
  pos : Nat
instance : Inhabited Itm := ⟨⟨0, ⟨#[]⟩, 0⟩⟩
structure Kyo where
  item : Itm
  desc : Bool
instance : Inhabited Kyo := ⟨⟨default, false⟩⟩
inductive Prd where
  | mk (kind : Nat) (col : ByteArray) (rel : Nat) (val : Vl) (oth : ByteArray) (list : List Vl) (kids : List Prd) (pos : Nat)
def Prd.none : Prd := .mk 0 ⟨#[]⟩ 0 ⟨0, 0, ⟨#[]⟩⟩ ⟨#[]⟩ [] [] 0
instance : Inhabited Prd := ⟨Prd.none⟩
def Prd.pos : Prd → Nat | .mk _ _ _ _ _ _ _ p => p
structure RS where
  rest : List Tk
  err : Option (Nat × Nat)
def tk0 : Tk := ⟨0, ⟨#[]⟩, 0⟩
def RS.hd (s : RS) : Tk := s.rest.headD tk0
def RS.wrong (s : RS) (c : Nat) : RS := ⟨s.rest.drop (s.rest.length - 1), some (s.err.getD (s.hd.pos, c))⟩
def RS.pass (s : RS) : RS := ⟨s.rest.drop 1, s.err⟩
def RS.comes (s : RS) (t : ByteArray) : Bool := decide (s.hd.text = t)
def RS.took (s : RS) (t : ByteArray) : RS × Bool := if s.comes t then (s.pass, true) else (s, false)
def RS.need (s : RS) (t : ByteArray) : RS := if s.comes t then s.pass else s.wrong 11
def RS.fin (s : RS) : RS := if s.hd.kind = 0 then s else s.wrong 11
def RS.named (s : RS) : Bool := decide (s.hd.kind = 1)
def RS.name (s : RS) : RS × ByteArray := if s.named then (s.pass, s.hd.text) else (s.wrong 11, ⟨#[]⟩)
def vlK : Value → Int
  | .int _ k => k
  | _ => 0
def vlS : Value → ByteArray
  | .string t => t
  | _ => ⟨#[]⟩
def vlA : Value → Vl
  | .agg c => ⟨vlK (c.getD 0 undef), vlK (c.getD 1 undef), vlS (c.getD 2 undef)⟩
  | _ => ⟨0, 0, ⟨#[]⟩⟩
def vlOf : Value → Vl
  | .tuple a => vlA (a.getD 0 undef)
  | _ => ⟨0, 0, ⟨#[]⟩⟩
def litV (t : ByteArray) : Vl := vlOf (readV t.data.toList)
def RS.literal (s : RS) : RS × Vl := if readC s.hd.text.data.toList = 0 then (s.pass, litV s.hd.text) else (s.wrong 11, ⟨0, 0, ⟨#[]⟩⟩)
def relT (t : ByteArray) : Nat :=
  if t = ⟨#[61]⟩ then 1 else if t = ⟨#[60, 62]⟩ then 2 else if t = ⟨#[60]⟩ then 3 else if t = ⟨#[60, 61]⟩ then 4 else if t = ⟨#[62]⟩ then 5 else if t = ⟨#[62, 61]⟩ then 6 else 0
def RS.rel (s : RS) : RS × Nat := if relT s.hd.text = 0 then (s, 0) else (s.pass, relT s.hd.text)

def RS.ok (s : RS) : Prop := ∃ f l, s.rest = f ++ [l] ∧ l.kind = 0 ∧ l.text = ⟨#[]⟩ ∧ ∀ t ∈ f, t.kind ≠ 0 ∧ t.text ≠ ⟨#[]⟩
end Go.Proofs.YtpklajadfbigcaaGreatDoor
namespace Go.Proofs.YtpklajadfbigcaaGreatDoor
open Go.RowKit

end Go.Proofs.YtpklajadfbigcaaGreatDoor
namespace Go.Proofs.YtpklajadfbigcaaGreatDoor
open Go.RowKit

structure Cl where
  n : ByteArray
  k : Int
  b : Bool
instance : Inhabited Cl := ⟨⟨⟨#[]⟩, 0, false⟩⟩
def ColsAt (B : Nat) (w : World) (a : Option Addr) (l : List Cl) : Prop :=
  l.length ≤ 9223372036854775807 ∧ (l = [] ∨ ∃ b off, a = some ⟨b, off, none⟩ ∧ b < B ∧ ∀ i, i < l.length → w.cell? ⟨b, off + i * 3, none⟩ = some (.string (l.getD i default).n) ∧ w.cell? ⟨b, off + i * 3 + 1, none⟩ = some (.int .i64 (l.getD i default).k) ∧ w.cell? ⟨b, off + i * 3 + 2, none⟩ = some (.bool (l.getD i default).b))
theorem ColsAt.keep {B : Nat} {w w' : World} {a : Option Addr} {l : List Cl} (h : ColsAt B w a l) {row : Option Nat} (hg : w.grownBy w' row) (hr : ∀ k, row = some k → B ≤ k) : ColsAt B w' a l := by
  refine ⟨h.1, h.2.imp id fun ⟨b, off, e, hlt, hc⟩ => ⟨b, off, e, hlt, fun i hi => ?_⟩⟩
  have hb : some b ≠ row := fun e => by have := hr b e.symm; omega
  exact ⟨hg.cell (hc i hi).1 hb, hg.cell (hc i hi).2.1 hb, hg.cell (hc i hi).2.2 hb⟩
theorem ColsAt.at {B : Nat} {w : World} {a : Option Addr} {l : List Cl} (h : ColsAt B w a l) {i : Nat} (hi : i < l.length) : ∃ b off, a = some ⟨b, off, none⟩ ∧ b < B ∧ w.cell? ⟨b, off + i * 3, none⟩ = some (.string (l.getD i default).n) ∧ w.cell? ⟨b, off + i * 3 + 1, none⟩ = some (.int .i64 (l.getD i default).k) ∧ w.cell? ⟨b, off + i * 3 + 2, none⟩ = some (.bool (l.getD i default).b) := by
  rcases h.2 with h | ⟨b, off, e, hlt, hc⟩
  · rw [h] at hi; simp at hi
  · exact ⟨b, off, e, hlt, hc i hi⟩
end Go.Proofs.YtpklajadfbigcaaGreatDoor
namespace Go.Proofs.YtpklajadfbigcaaGreatDoor
open Go.RowKit

end Go.Proofs.YtpklajadfbigcaaGreatDoor
namespace Go.Proofs.YtpklajadfbigcaaGreatDoor
open Go.RowKit

end Go.Proofs.YtpklajadfbigcaaGreatDoor
