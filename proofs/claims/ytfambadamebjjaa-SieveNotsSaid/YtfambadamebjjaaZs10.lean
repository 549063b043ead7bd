import Derived.Test.YtfambadamebjjaaZs08
import Derived.Test.YtfambadamebjjaaZs05
import Derived.Test.YtfambadamebjjaaZs09
import Derived.Deep.DeepCutAuto
set_option linter.unusedSimpArgs false
set_option linter.unusedVariables false
namespace Go.Proofs.Ytfambadamebjjaa

structure Itm where
 agg : Nat
 col : ByteArray
 pos : Nat
instance : Inhabited Itm := ⟨⟨0, ⟨#[]⟩, 0⟩⟩
structure Kyo where
 item : Itm
 desc : Bool
instance : Inhabited Kyo := ⟨⟨default, false⟩⟩
inductive Prd where
 | mk (kind : Nat) (col : ByteArray) (rel : Nat) (val : Vl) (oth : ByteArray) (list : List Vl) (kids : List Prd) (pos : Nat)
def Prd.none : Prd := .mk 0 ⟨#[]⟩ 0 ⟨0, 0, ⟨#[]⟩⟩ ⟨#[]⟩ [] [] 0
instance : Inhabited Prd := ⟨Prd.none⟩
def Prd.pos : Prd → Nat | .mk _ _ _ _ _ _ _ p => p
structure Qry where
 items : List Itm
 all : Bool
 table : ByteArray
 cond : Prd
 group : List Itm
 order : List Kyo
 limit : Int

def bSel : ByteArray := ⟨#[83, 69, 76, 69, 67, 84]⟩
def bStar : ByteArray := ⟨#[42]⟩
def bFrom : ByteArray := ⟨#[70, 82, 79, 77]⟩
def bWhere : ByteArray := ⟨#[87, 72, 69, 82, 69]⟩
def bGroup : ByteArray := ⟨#[71, 82, 79, 85, 80]⟩
def bBy : ByteArray := ⟨#[66, 89]⟩
def bOrder : ByteArray := ⟨#[79, 82, 68, 69, 82]⟩
def bLimit : ByteArray := ⟨#[76, 73, 77, 73, 84]⟩
def bOpen : ByteArray := ⟨#[40]⟩
def bShut : ByteArray := ⟨#[41]⟩
def bComma : ByteArray := ⟨#[44]⟩
def bCount : ByteArray := ⟨#[67, 79, 85, 78, 84]⟩
def bSum : ByteArray := ⟨#[83, 85, 77]⟩
def bMin : ByteArray := ⟨#[77, 73, 78]⟩
def bMax : ByteArray := ⟨#[77, 65, 88]⟩
def bAsc : ByteArray := ⟨#[65, 83, 67]⟩
def bDesc : ByteArray := ⟨#[68, 69, 83, 67]⟩
def bOr : ByteArray := ⟨#[79, 82]⟩
def bAnd : ByteArray := ⟨#[65, 78, 68]⟩
def bNot : ByteArray := ⟨#[78, 79, 84]⟩
def bIs : ByteArray := ⟨#[73, 83]⟩
def bNull : ByteArray := ⟨#[78, 85, 76, 76]⟩
def bIn : ByteArray := ⟨#[73, 78]⟩
def bBetween : ByteArray := ⟨#[66, 69, 84, 87, 69, 69, 78]⟩

structure RS where
 rest : List Tk
 err : Option (Nat × Nat)
def tk0 : Tk := ⟨0, ⟨#[]⟩, 0⟩
def RS.hd (s : RS) : Tk := s.rest.headD tk0
def RS.wrong (s : RS) (c : Nat) : RS := ⟨s.rest.drop (s.rest.length - 1), some (s.err.getD (s.hd.pos, c))⟩
def RS.pass (s : RS) : RS := ⟨s.rest.drop 1, s.err⟩
def RS.comes (s : RS) (t : ByteArray) : Bool := decide (s.hd.text = t)
def RS.took (s : RS) (t : ByteArray) : RS × Bool := if s.comes t then (s.pass, true) else (s, false)
def RS.need (s : RS) (t : ByteArray) : RS := if s.comes t then s.pass else s.wrong 11
def RS.fin (s : RS) : RS := if s.hd.kind = 0 then s else s.wrong 11
def RS.named (s : RS) : Bool := decide (s.hd.kind = 1)
def RS.name (s : RS) : RS × ByteArray := if s.named then (s.pass, s.hd.text) else (s.wrong 11, ⟨#[]⟩)
def vlK : Value → Int
 | .int _ k => k
 | _ => 0
def vlS : Value → ByteArray
 | .string t => t
 | _ => ⟨#[]⟩
def vlA : Value → Vl
 | .agg c => ⟨vlK (c.getD 0 undef), vlK (c.getD 1 undef), vlS (c.getD 2 undef)⟩
 | _ => ⟨0, 0, ⟨#[]⟩⟩
def vlOf : Value → Vl
 | .tuple a => vlA (a.getD 0 undef)
 | _ => ⟨0, 0, ⟨#[]⟩⟩
def litV (t : ByteArray) : Vl := vlOf (readV t.data.toList)
def RS.literal (s : RS) : RS × Vl := if readC s.hd.text.data.toList = 0 then (s.pass, litV s.hd.text) else (s.wrong 11, ⟨0, 0, ⟨#[]⟩⟩)
def relT (t : ByteArray) : Nat :=
 if t = ⟨#[61]⟩ then 1 else if t = ⟨#[60, 62]⟩ then 2 else if t = ⟨#[60]⟩ then 3 else if t = ⟨#[60, 61]⟩ then 4 else if t = ⟨#[62]⟩ then 5 else if t = ⟨#[62, 61]⟩ then 6 else 0
def RS.rel (s : RS) : RS × Nat := if relT s.hd.text = 0 then (s, 0) else (s.pass, relT s.hd.text)

def listF {β : Type} (most : Nat) (nx : RS → RS × β) : Nat → RS → List β → RS × List β
 | 0, s, acc => (s, acc)
 | f + 1, s, acc =>
  if acc.length = most then (s.wrong 3, acc)
  else if (nx s).1.comes bComma then listF most nx f (nx s).1.pass (acc ++ [(nx s).2])
  else ((nx s).1, acc ++ [(nx s).2])
def partsF (word : ByteArray) (pf : RS → RS × Prd) : Nat → RS → List Prd → RS × List Prd
 | 0, s, acc => (s, acc)
 | f + 1, s, acc => if s.comes word then partsF word pf f (pf s.pass).1 (acc ++ [(pf s.pass).2]) else (s, acc)
def joinP (kind pos : Nat) (l : List Prd) : Prd := match l with
 | [p] => p
 | l => .mk kind ⟨#[]⟩ 0 ⟨0, 0, ⟨#[]⟩⟩ ⟨#[]⟩ [] l pos
def partsL (kind : Nat) (word : ByteArray) (pf : RS → RS × Prd) (s : RS) : RS × Prd :=
 let r := partsF word pf (pf s).1.rest.length (pf s).1 [(pf s).2]
 (r.1, joinP kind s.hd.pos r.2)
def notP (p : Prd) (pos : Nat) : Prd := .mk 10 ⟨#[]⟩ 0 ⟨0, 0, ⟨#[]⟩⟩ ⟨#[]⟩ [] [p] pos

def amongL (col : ByteArray) (pos : Nat) (s : RS) : RS × Prd :=
 if s.comes bIn then
  let r := listF 12 RS.literal 13 (s.pass.need bOpen) []
  (r.1.need bShut, .mk 5 col 0 ⟨0, 0, ⟨#[]⟩⟩ ⟨#[]⟩ r.2 [] pos)
 else
  let a := (s.need bBetween).literal
  let b := (a.1.need bAnd).literal
  (b.1, .mk 8 ⟨#[]⟩ 0 ⟨0, 0, ⟨#[]⟩⟩ ⟨#[]⟩ [] [.mk 3 col 6 a.2 ⟨#[]⟩ [] [] pos, .mk 3 col 4 b.2 ⟨#[]⟩ [] [] pos] pos)
def nameP (pos : Nat) (s0 : RS) : RS × Prd :=
 let c := s0.name.2
 let s := s0.name.1
 if s.comes bIs then
  if s.pass.comes bNot then (s.pass.pass.need bNull, .mk 7 c 0 ⟨0, 0, ⟨#[]⟩⟩ ⟨#[]⟩ [] [] pos)
  else (s.pass.need bNull, .mk 6 c 0 ⟨0, 0, ⟨#[]⟩⟩ ⟨#[]⟩ [] [] pos)
 else if s.comes bNot then ((amongL c pos s.pass).1, notP (amongL c pos s.pass).2 pos)
 else if s.rel.2 = 0 then amongL c pos s.rel.1
 else if s.rel.1.named then (s.rel.1.name.1, .mk 4 c s.rel.2 ⟨0, 0, ⟨#[]⟩⟩ s.rel.1.name.2 [] [] pos)
 else (s.rel.1.literal.1, .mk 3 c s.rel.2 s.rel.1.literal.2 ⟨#[]⟩ [] [] pos)
def turnR (r : Nat) : Nat := if r = 3 then 5 else if r = 4 then 6 else if r = 5 then 3 else if r = 6 then 4 else r
def truthP (v : Vl) (pos : Nat) (s : RS) : RS × Prd :=
 (if v.k = 1 then s else s.wrong 11, .mk (if v.n = 1 then 1 else 2) ⟨#[]⟩ 0 ⟨0, 0, ⟨#[]⟩⟩ ⟨#[]⟩ [] [] pos)
def litP (pos : Nat) (s0 : RS) : RS × Prd :=
 let v := s0.literal.2
 let s := s0.literal.1
 if s.rel.2 = 0 then truthP v pos s.rel.1
 else if s.rel.1.named then (s.rel.1.name.1, .mk 3 s.rel.1.name.2 (turnR s.rel.2) v ⟨#[]⟩ [] [] pos)
 else (s.rel.1.literal.1, .mk 11 ⟨#[]⟩ s.rel.2 v ⟨#[]⟩ [s.rel.1.literal.2] [] pos)
def oneF : Nat → RS → RS × Prd
 | 0, s => (s.wrong 12, Prd.none)
 | d + 1, s =>
  if s.comes bNot then ((oneF d s.pass).1, notP (oneF d s.pass).2 s.hd.pos)
  else if s.comes bOpen then
   let r := partsL 9 bOr (partsL 8 bAnd (oneF d)) s.pass
   (r.1.need bShut, r.2)
  else if s.named then nameP s.hd.pos s
  else litP s.hd.pos s
def allF (d : Nat) : RS → RS × Prd := partsL 8 bAnd (oneF d)
def anyF (d : Nat) : RS → RS × Prd := partsL 9 bOr (allF d)

def columnL (s : RS) : RS × Itm := (s.name.1, ⟨0, s.name.2, s.hd.pos⟩)
def aggT (t : ByteArray) : Nat := if t = bCount then 2 else if t = bSum then 3 else if t = bMin then 4 else if t = bMax then 5 else 0
def itemL (s : RS) : RS × Itm :=
 if aggT s.hd.text = 0 then columnL s
 else
  let u := s.pass.need bOpen
  if aggT s.hd.text = 2 ∧ u.comes bStar then (u.pass.need bShut, ⟨1, ⟨#[]⟩, s.hd.pos⟩)
  else (u.name.1.need bShut, ⟨aggT s.hd.text, u.name.2, s.hd.pos⟩)
def keyL (s : RS) : RS × Kyo :=
 let r := itemL s
 if r.1.comes bAsc then (r.1.pass, ⟨r.2, false⟩)
 else if r.1.comes bDesc then (r.1.pass, ⟨r.2, true⟩) else (r.1, ⟨r.2, false⟩)
def limitL (s : RS) : RS × Int :=
 if s.hd.kind = 2 then
  let v := litV s.hd.text
  if v.n < 0 ∨ 1000 < v.n then (s.wrong 1, 0) else (s.pass, v.n)
 else (s.wrong 11, 0)
def itemsQ (s : RS) : RS × Bool × List Itm :=
 if s.comes bStar then (s.pass, true, []) else ((listF 8 itemL 9 s []).1, false, (listF 8 itemL 9 s []).2)
def whereQ (s : RS) : RS × Prd := if s.comes bWhere then anyF 20 s.pass else (s, Prd.none)
def groupQ (s : RS) : RS × List Itm := if s.comes bGroup then listF 8 columnL 9 (s.pass.need bBy) [] else (s, [])
def orderQ (s : RS) : RS × List Kyo := if s.comes bOrder then listF 8 keyL 9 (s.pass.need bBy) [] else (s, [])
def limitQ (s : RS) : RS × Int := if s.comes bLimit then limitL s.pass else (s, -1)
def queryL (s : RS) : RS × Qry :=
 let a := itemsQ (s.need bSel)
 let b := (a.1.need bFrom).name
 let c := whereQ b.1
 let d := groupQ c.1
 let e := orderQ d.1
 let f := limitQ e.1
 (f.1.fin, ⟨a.2.2, a.2.1, b.2, c.2, d.2, e.2, f.2⟩)
def parseL (s : ByteArray) : Except (Nat × Nat) Qry := match lexL s with
 | .error e => .error e
 | .ok l => match (queryL ⟨l, none⟩).1.err with
  | some e => .error e
  | none => .ok (queryL ⟨l, none⟩).2

def RS.ok (s : RS) : Prop := ∃ f l, s.rest = f ++ [l] ∧ l.kind = 0 ∧ l.text = ⟨#[]⟩ ∧ ∀ t ∈ f, t.kind ≠ 0 ∧ t.text ≠ ⟨#[]⟩
end Go.Proofs.Ytfambadamebjjaa
namespace Go.Proofs.Ytfambadamebjjaa
open Go.RowKit

end Go.Proofs.Ytfambadamebjjaa
namespace Go.Proofs.Ytfambadamebjjaa
open Go.RowKit

structure Cl where
 n : ByteArray
 k : Int
 b : Bool
instance : Inhabited Cl := ⟨⟨⟨#[]⟩, 0, false⟩⟩
def ColsAt (B : Nat) (w : World) (a : Option Addr) (l : List Cl) : Prop :=
 l.length ≤ 9223372036854775807 ∧ (l = [] ∨ ∃ b off, a = some ⟨b, off, none⟩ ∧ b < B ∧ ∀ i, i < l.length → w.cell? ⟨b, off + i * 3, none⟩ = some (.string (l.getD i default).n) ∧ w.cell? ⟨b, off + i * 3 + 1, none⟩ = some (.int .i64 (l.getD i default).k) ∧ w.cell? ⟨b, off + i * 3 + 2, none⟩ = some (.bool (l.getD i default).b))
theorem ColsAt.keep {B : Nat} {w w' : World} {a : Option Addr} {l : List Cl} (h : ColsAt B w a l) {row : Option Nat} (hg : w.grownBy w' row) (hr : ∀ k, row = some k → B ≤ k) : ColsAt B w' a l := by
 refine ⟨h.1, h.2.imp id fun ⟨b, off, e, hlt, hc⟩ => ⟨b, off, e, hlt, fun i hi => ?_⟩⟩
 have hb : some b ≠ row := fun e => by have := hr b e.symm; omega
 exact ⟨hg.cell (hc i hi).1 hb, hg.cell (hc i hi).2.1 hb, hg.cell (hc i hi).2.2 hb⟩
theorem ColsAt.at {B : Nat} {w : World} {a : Option Addr} {l : List Cl} (h : ColsAt B w a l) {i : Nat} (hi : i < l.length) : ∃ b off, a = some ⟨b, off, none⟩ ∧ b < B ∧ w.cell? ⟨b, off + i * 3, none⟩ = some (.string (l.getD i default).n) ∧ w.cell? ⟨b, off + i * 3 + 1, none⟩ = some (.int .i64 (l.getD i default).k) ∧ w.cell? ⟨b, off + i * 3 + 2, none⟩ = some (.bool (l.getD i default).b) := by
 rcases h.2 with h | ⟨b, off, e, hlt, hc⟩
 ·rw [h] at hi; simp at hi
 ·exact ⟨b, off, e, hlt, hc i hi⟩
end Go.Proofs.Ytfambadamebjjaa
namespace Go.Proofs.Ytfambadamebjjaa
open Go.RowKit

end Go.Proofs.Ytfambadamebjjaa
