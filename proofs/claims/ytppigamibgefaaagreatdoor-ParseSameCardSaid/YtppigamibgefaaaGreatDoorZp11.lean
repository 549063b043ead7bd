/- The mathematics of tokens: what a text begins with, and all its tokens. tree's turnedRight and turnedLeft. Queries read of tokens, as mathematics: what the program's reader does. -/
import Derived.Test.YtppigamibgefaaaGreatDoorZp10
import Derived.Deep.DeepCutAuto
import Derived.Test.YtppigamibgefaaaGreatDoorZp07
namespace Go.Proofs.YtppigamibgefaaaGreatDoor
open Go.RowKit

def blankB (c : UInt8) : Bool := decide (c.toNat = 9) || decide (c.toNat = 10) || decide (c.toNat = 13) || decide (c.toNat = 32)
def upB (c : UInt8) : Bool := decide (65 ≤ c.toNat) && decide (c.toNat ≤ 90)
/-- May it stand within a word? -/
def partB (c : UInt8) : Bool := letB c || upB c || digB c || decide (c.toNat = 95)
/-- How many bytes at the front fit. -/
def runL (f : UInt8 → Bool) : List UInt8 → Nat
  | [] => 0
  | c :: r => if f c then runL f r + 1 else 0
theorem runL_le (f : UInt8 → Bool) : ∀ l : List UInt8, runL f l ≤ l.length
  | [] => Nat.le_refl _
  | c :: r => by
    simp only [runL]; split
    · have := runL_le f r; simp; omega
    · simp
/-- Behind an opening quote: how many bytes to the closing one's end. -/
def qC : List UInt8 → Option Nat
  | [] => none
  | [c] => if c = 39 then some 1 else none
  | c :: d :: r => if c = 39 then (if d = 39 then (qC r).map (· + 2) else some 1) else (qC (d :: r)).map (· + 1)
/-- How many bytes a text between quotes has behind its first: if none closes it, all. -/
def qN (l : List UInt8) : Nat := (qC l).getD l.length
theorem qC_le : ∀ (n : Nat) (l : List UInt8) (k : Nat), l.length ≤ n → qC l = some k → 1 ≤ k ∧ k ≤ l.length
  | _, [], k, _, h => by simp [qC] at h
  | 0, c :: r, k, hn, _ => by simp at hn
  | n + 1, [c], k, hn, h => by
    rw [qC] at h
    split at h
    · simp at h; subst h; simp
    · simp at h
  | n + 1, c :: d :: r, k, hn, h => by
    rw [qC] at h
    split at h
    · split at h
      · obtain ⟨j, hj, rfl⟩ := Option.map_eq_some_iff.1 h
        have := qC_le n r j (by simp at hn; omega) hj
        simp; omega
      · simp at h; subst h; simp
    · obtain ⟨j, hj, rfl⟩ := Option.map_eq_some_iff.1 h
      have := qC_le n (d :: r) j (by simp at hn; simp; omega) hj
      simp at this ⊢; omega
theorem qN_le (l : List UInt8) : qN l ≤ l.length := by
  unfold qN
  cases h : qC l with
  | none => exact Nat.le_refl _
  | some k => exact (qC_le _ l k (Nat.le_refl _) h).2

/-- What is wrong with a value's text: 0 nothing, 1 too great, 2 no value. -/
def intC (l : List UInt8) : Nat := if wrB l then (if inI (ival l) then 0 else 1) else 2
def textC (o : Option (List UInt8)) : Nat := match o with | none => 2 | some t => if t.length ≤ 60 then 0 else 1
def readC (l : List UInt8) : Nat :=
  if l = [78, 85, 76, 76] then 0 else if l = [70, 65, 76, 83, 69] then 0 else if l = [84, 82, 85, 69] then 0
  else match l with
    | c :: r => if c = 39 then textC (readB r) else intC (c :: r)
    | [] => intC []
theorem textRes_code (o : Option (List UInt8)) : ∃ k n t, textRes o = .tuple #[.agg #[.int .i64 k, .int .i64 n, .string t], .int .i64 (textC o)] := by
  unfold textRes textC
  cases o with
  | none => exact ⟨_, _, _, rfl⟩
  | some t => simp only; split <;> exact ⟨_, _, _, rfl⟩
theorem intRes_code (l : List UInt8) : ∃ k n t, intRes l = .tuple #[.agg #[.int .i64 k, .int .i64 n, .string t], .int .i64 (intC l)] := by
  unfold intRes intC
  split
  · split <;> exact ⟨_, _, _, rfl⟩
  · exact ⟨_, _, _, rfl⟩
theorem readV_code (l : List UInt8) : ∃ k n t, readV l = .tuple #[.agg #[.int .i64 k, .int .i64 n, .string t], .int .i64 (readC l)] := by
  unfold readV readC
  split
  · exact ⟨_, _, _, rfl⟩
  · split
    · exact ⟨_, _, _, rfl⟩
    · split
      · exact ⟨_, _, _, rfl⟩
      · match l with
        | [] => exact intRes_code []
        | c :: r =>
          simp only
          split
          · exact textRes_code _
          · exact intRes_code _
theorem textC_le (o : Option (List UInt8)) : textC o ≤ 2 := by
  unfold textC
  split
  · omega
  · split <;> omega
theorem intC_le (l : List UInt8) : intC l ≤ 2 := by
  unfold intC
  split
  · split <;> omega
  · omega
theorem readC_le (l : List UInt8) : readC l ≤ 2 := by
  unfold readC
  split
  · omega
  · split
    · omega
    · split
      · omega
      · split
        · split
          · exact textC_le _
          · exact intC_le _
        · exact intC_le _

/-- The error's number of a value's text as a token. -/
def litC (l : List UInt8) : Nat := match readC l with | 0 => 0 | 1 => 1 | _ => 10
def words : List (List UInt8) := [[83, 69, 76, 69, 67, 84], [70, 82, 79, 77], [87, 72, 69, 82, 69], [71, 82, 79, 85, 80], [79, 82, 68, 69, 82], [66, 89], [76, 73, 77, 73, 84], [65, 83, 67], [68, 69, 83, 67],
  [65, 78, 68], [79, 82], [78, 79, 84], [73, 83], [73, 78], [66, 69, 84, 87, 69, 69, 78], [78, 85, 76, 76], [84, 82, 85, 69], [70, 65, 76, 83, 69], [67, 79, 85, 78, 84], [83, 85, 77], [77, 73, 78], [77, 65, 88]]
def wordB (l : List UInt8) : Bool := words.contains l
/-- A name, on lists. -/
def nameL (l : List UInt8) : Bool := nameB ⟨l.toArray⟩
/-- How many bytes a sign has; 0: none. -/
def signN (l : List UInt8) : Nat :=
  if Lib.hasPrefix l [60, 62] || Lib.hasPrefix l [60, 61] || Lib.hasPrefix l [62, 61] then 2
  else match l with | c :: _ => if [61, 60, 62, 42, 44, 40, 41].contains c then 1 else 0 | [] => 0
/-- What a text begins with: the kind, how many bytes, the error's number. -/
def tokL (l : List UInt8) : Nat × Nat × Nat := match l with
  | [] => (0, 0, 10)
  | c :: r =>
    if c.toNat = 39 then (3, 1 + qN r, litC ((c :: r).take (1 + qN r)))
    else if c.toNat = 45 then (2, 1 + runL partB r, litC ((c :: r).take (1 + runL partB r)))
    else if digB c then (2, runL partB (c :: r), litC ((c :: r).take (runL partB (c :: r))))
    else if partB c then
      (if wordB ((c :: r).take (runL partB (c :: r))) then (5, runL partB (c :: r), 0)
       else if nameL ((c :: r).take (runL partB (c :: r))) then (1, runL partB (c :: r), 0) else (0, runL partB (c :: r), 10))
    else if signN (c :: r) = 0 then (4, 0, 10) else (4, signN (c :: r), 0)
/-- A token. -/
structure Tk where
  kind : Nat
  text : ByteArray
  pos : Nat
/-- The tokens from a place on, behind those that are there. -/
def lexF (s : ByteArray) : Nat → Nat → List Tk → Except (Nat × Nat) (List Tk)
  | 0, _, acc => .ok acc
  | f + 1, at0, acc =>
    if at0 + runL blankB (s.data.toList.drop at0) = s.size then .ok (acc ++ [⟨0, ⟨#[]⟩, s.size⟩])
    else match tokL (s.data.toList.drop (at0 + runL blankB (s.data.toList.drop at0))) with
      | (k, n, 0) => if acc.length = 250 then .error (at0 + runL blankB (s.data.toList.drop at0), 3)
        else lexF s f (at0 + runL blankB (s.data.toList.drop at0) + n) (acc ++ [⟨k, s.extract (at0 + runL blankB (s.data.toList.drop at0)) (at0 + runL blankB (s.data.toList.drop at0) + n), at0 + runL blankB (s.data.toList.drop at0)⟩])
      | (_, _, c + 1) => .error (at0 + runL blankB (s.data.toList.drop at0), c + 1)
/-- All tokens of a text, or the place and the number of what is wrong. -/
def lexL (s : ByteArray) : Except (Nat × Nat) (List Tk) := if 1500 < s.size then .error (1500, 13) else lexF s (s.size + 1) 0 []

theorem signN_le (l : List UInt8) : signN l ≤ l.length ∧ signN l ≤ 2 := by
  unfold signN
  split
  · rename_i h
    match l, h with
    | [], h => simp [Lib.hasPrefix] at h
    | [a], h => simp [Lib.hasPrefix] at h
    | a :: b :: r, _ => simp
  · split
    · split <;> simp
    · simp
theorem tokL_len (l : List UInt8) (k n c : Nat) (h : tokL l = (k, n, c)) : n ≤ l.length ∧ (c = 0 → 1 ≤ n) ∧ c ≤ 10 := by
  match l, h with
  | [], h => simp [tokL] at h; obtain ⟨rfl, rfl, rfl⟩ := h; simp
  | a :: r, h =>
    have hl : ∀ x, litC x ≤ 10 := fun x => by unfold litC; split <;> omega
    have hr1 := runL_le partB r
    have hr2 := runL_le partB (a :: r)
    have hq := qN_le r
    have hs := signN_le (a :: r)
    simp only [tokL] at h
    have hp : partB a = true → 1 ≤ runL partB (a :: r) := fun h => by simp [runL, h]
    have hd : digB a = true → partB a = true := fun h => by simp [partB, h]
    split at h
    · simp only [Prod.mk.injEq] at h; obtain ⟨_, rfl, rfl⟩ := h; exact ⟨by simp; omega, fun _ => by omega, hl _⟩
    · split at h
      · simp only [Prod.mk.injEq] at h; obtain ⟨_, rfl, rfl⟩ := h; exact ⟨by simp; omega, fun _ => by omega, hl _⟩
      · split at h
        · rename_i hdg
          simp only [Prod.mk.injEq] at h; obtain ⟨_, rfl, rfl⟩ := h; exact ⟨hr2, fun _ => hp (hd hdg), hl _⟩
        · split at h
          · rename_i hpt
            split at h
            · simp only [Prod.mk.injEq] at h; obtain ⟨_, rfl, rfl⟩ := h; exact ⟨hr2, fun _ => hp hpt, by omega⟩
            · split at h <;> (simp only [Prod.mk.injEq] at h; obtain ⟨_, rfl, rfl⟩ := h; exact ⟨hr2, fun _ => hp hpt, by omega⟩)
          · split at h <;> (simp only [Prod.mk.injEq] at h; obtain ⟨_, rfl, rfl⟩ := h)
            · exact ⟨by omega, fun h => by omega, by omega⟩
            · exact ⟨hs.1, fun _ => by omega, by omega⟩
end Go.Proofs.YtppigamibgefaaaGreatDoor
namespace Go.Proofs.YtppigamibgefaaaGreatDoor
open Go.RowKit

def Box2 (b : Nat) (W : World) (x y : Value) : Prop := W.cell? ⟨b, 0, none⟩ = some x ∧ W.cell? ⟨b, 1, none⟩ = some y
theorem Box2.keep {b : Nat} {W W' : World} {x y : Value} (h : Box2 b W x y) (hg : W.grownBy W' none) : Box2 b W' x y := ⟨hg.cell h.1 (by simp), hg.cell h.2 (by simp)⟩
theorem Box2.new (w : World) (x y : Value) (T : TypeId) : Box2 w.heap.size (w.alloc (.cells #[x, y] T)) x y := ⟨cell_of_row _ _ 0 _ _ _ (heap_alloc_new w _), cell_of_row _ _ 1 _ _ _ (heap_alloc_new w _)⟩
def Box4 (b : Nat) (W : World) (x y z u : Value) : Prop := W.cell? ⟨b, 0, none⟩ = some x ∧ W.cell? ⟨b, 1, none⟩ = some y ∧ W.cell? ⟨b, 2, none⟩ = some z ∧ W.cell? ⟨b, 3, none⟩ = some u
theorem Box4.keep {b : Nat} {W W' : World} {x y z u : Value} (h : Box4 b W x y z u) (hg : W.grownBy W' none) : Box4 b W' x y z u := ⟨hg.cell h.1 (by simp), hg.cell h.2.1 (by simp), hg.cell h.2.2.1 (by simp), hg.cell h.2.2.2 (by simp)⟩
abbrev Ptr := Option Addr
/-- A call that makes a tree. -/
def Makes (f : FuncId) (args : Array Value) (w : World) (P : World → Ptr → Prop) : Prop :=
  Calls Tryz.prog f args w fun e w' => (∃ q, e = .returned (.pointer q) ∧ P w' q) ∧ w.grownBy w' none
theorem Makes.calls {f : FuncId} {args : Array Value} {w : World} {P : World → Ptr → Prop} (h : Makes f args w P) : Calls Tryz.prog f args w fun e w' => (∃ q, e = .returned (.pointer q) ∧ P w' q) ∧ w.grownBy w' none := h
end Go.Proofs.YtppigamibgefaaaGreatDoor
namespace Go.Proofs.YtppigamibgefaaaGreatDoor

/-- An item. -/
structure Itm where
  agg : Nat
  col : ByteArray
  pos : Nat
instance : Inhabited Itm := ⟨⟨0, ⟨#[]⟩, 0⟩⟩
/-- A key to order by. -/
structure Kyo where
  item : Itm
  desc : Bool
instance : Inhabited Kyo := ⟨⟨default, false⟩⟩
/-- A predicate. -/
inductive Prd where
  | mk (kind : Nat) (col : ByteArray) (rel : Nat) (val : Vl) (oth : ByteArray) (list : List Vl) (kids : List Prd) (pos : Nat)
def Prd.none : Prd := .mk 0 ⟨#[]⟩ 0 ⟨0, 0, ⟨#[]⟩⟩ ⟨#[]⟩ [] [] 0
instance : Inhabited Prd := ⟨Prd.none⟩
def Prd.pos : Prd → Nat | .mk _ _ _ _ _ _ _ p => p
/-- A query. -/
structure Qry where
  items : List Itm
  all : Bool
  table : ByteArray
  cond : Prd
  group : List Itm
  order : List Kyo
  limit : Int

/-- Texts of words and signs. -/
def bSel : ByteArray := ⟨#[83, 69, 76, 69, 67, 84]⟩
def bStar : ByteArray := ⟨#[42]⟩
def bFrom : ByteArray := ⟨#[70, 82, 79, 77]⟩
def bWhere : ByteArray := ⟨#[87, 72, 69, 82, 69]⟩
def bGroup : ByteArray := ⟨#[71, 82, 79, 85, 80]⟩
def bBy : ByteArray := ⟨#[66, 89]⟩
def bOrder : ByteArray := ⟨#[79, 82, 68, 69, 82]⟩
def bLimit : ByteArray := ⟨#[76, 73, 77, 73, 84]⟩
def bOpen : ByteArray := ⟨#[40]⟩
def bShut : ByteArray := ⟨#[41]⟩
def bComma : ByteArray := ⟨#[44]⟩
def bCount : ByteArray := ⟨#[67, 79, 85, 78, 84]⟩
def bSum : ByteArray := ⟨#[83, 85, 77]⟩
def bMin : ByteArray := ⟨#[77, 73, 78]⟩
def bMax : ByteArray := ⟨#[77, 65, 88]⟩
def bAsc : ByteArray := ⟨#[65, 83, 67]⟩
def bDesc : ByteArray := ⟨#[68, 69, 83, 67]⟩
def bOr : ByteArray := ⟨#[79, 82]⟩
def bAnd : ByteArray := ⟨#[65, 78, 68]⟩
def bNot : ByteArray := ⟨#[78, 79, 84]⟩
def bIs : ByteArray := ⟨#[73, 83]⟩
def bNull : ByteArray := ⟨#[78, 85, 76, 76]⟩
def bIn : ByteArray := ⟨#[73, 78]⟩
def bBetween : ByteArray := ⟨#[66, 69, 84, 87, 69, 69, 78]⟩

/-- The reader: the tokens to come, the first error (its place and number). -/
structure RS where
  rest : List Tk
  err : Option (Nat × Nat)
def tk0 : Tk := ⟨0, ⟨#[]⟩, 0⟩
def RS.hd (s : RS) : Tk := s.rest.headD tk0
def RS.wrong (s : RS) (c : Nat) : RS := ⟨s.rest.drop (s.rest.length - 1), some (s.err.getD (s.hd.pos, c))⟩
def RS.pass (s : RS) : RS := ⟨s.rest.drop 1, s.err⟩
def RS.comes (s : RS) (t : ByteArray) : Bool := decide (s.hd.text = t)
def RS.took (s : RS) (t : ByteArray) : RS × Bool := if s.comes t then (s.pass, true) else (s, false)
def RS.need (s : RS) (t : ByteArray) : RS := if s.comes t then s.pass else s.wrong 11
def RS.fin (s : RS) : RS := if s.hd.kind = 0 then s else s.wrong 11
def RS.named (s : RS) : Bool := decide (s.hd.kind = 1)
def RS.name (s : RS) : RS × ByteArray := if s.named then (s.pass, s.hd.text) else (s.wrong 11, ⟨#[]⟩)
/-- A value's text as a value. -/
def vlK : Value → Int
  | .int _ k => k
  | _ => 0
def vlS : Value → ByteArray
  | .string t => t
  | _ => ⟨#[]⟩
def vlA : Value → Vl
  | .agg c => ⟨vlK (c.getD 0 undef), vlK (c.getD 1 undef), vlS (c.getD 2 undef)⟩
  | _ => ⟨0, 0, ⟨#[]⟩⟩
def vlOf : Value → Vl
  | .tuple a => vlA (a.getD 0 undef)
  | _ => ⟨0, 0, ⟨#[]⟩⟩
def litV (t : ByteArray) : Vl := vlOf (readV t.data.toList)
def RS.literal (s : RS) : RS × Vl := if readC s.hd.text.data.toList = 0 then (s.pass, litV s.hd.text) else (s.wrong 11, ⟨0, 0, ⟨#[]⟩⟩)
def relT (t : ByteArray) : Nat :=
  if t = ⟨#[61]⟩ then 1 else if t = ⟨#[60, 62]⟩ then 2 else if t = ⟨#[60]⟩ then 3 else if t = ⟨#[60, 61]⟩ then 4 else if t = ⟨#[62]⟩ then 5 else if t = ⟨#[62, 61]⟩ then 6 else 0
def RS.rel (s : RS) : RS × Nat := if relT s.hd.text = 0 then (s, 0) else (s.pass, relT s.hd.text)

/-- Things with commas between, at most so many; the next one is read. -/
def listF {β : Type} (most : Nat) (nx : RS → RS × β) : Nat → RS → List β → RS × List β
  | 0, s, acc => (s, acc)
  | f + 1, s, acc =>
    if acc.length = most then (s.wrong 3, acc)
    else if (nx s).1.comes bComma then listF most nx f (nx s).1.pass (acc ++ [(nx s).2])
    else ((nx s).1, acc ++ [(nx s).2])
/-- Predicates with a word between; the word has just been looked for. -/
def partsF (word : ByteArray) (pf : RS → RS × Prd) : Nat → RS → List Prd → RS × List Prd
  | 0, s, acc => (s, acc)
  | f + 1, s, acc => if s.comes word then partsF word pf f (pf s.pass).1 (acc ++ [(pf s.pass).2]) else (s, acc)
def joinP (kind pos : Nat) (l : List Prd) : Prd := match l with
  | [p] => p
  | l => .mk kind ⟨#[]⟩ 0 ⟨0, 0, ⟨#[]⟩⟩ ⟨#[]⟩ [] l pos
def partsL (kind : Nat) (word : ByteArray) (pf : RS → RS × Prd) (s : RS) : RS × Prd :=
  let r := partsF word pf (pf s).1.rest.length (pf s).1 [(pf s).2]
  (r.1, joinP kind s.hd.pos r.2)
def notP (p : Prd) (pos : Nat) : Prd := .mk 10 ⟨#[]⟩ 0 ⟨0, 0, ⟨#[]⟩⟩ ⟨#[]⟩ [] [p] pos

/-- IN or BETWEEN of a column. -/
def amongL (col : ByteArray) (pos : Nat) (s : RS) : RS × Prd :=
  if s.comes bIn then
    let r := listF 12 RS.literal 13 (s.pass.need bOpen) []
    (r.1.need bShut, .mk 5 col 0 ⟨0, 0, ⟨#[]⟩⟩ ⟨#[]⟩ r.2 [] pos)
  else
    let a := (s.need bBetween).literal
    let b := (a.1.need bAnd).literal
    (b.1, .mk 8 ⟨#[]⟩ 0 ⟨0, 0, ⟨#[]⟩⟩ ⟨#[]⟩ [] [.mk 3 col 6 a.2 ⟨#[]⟩ [] [] pos, .mk 3 col 4 b.2 ⟨#[]⟩ [] [] pos] pos)
/-- A one that begins with a name. -/
def nameP (pos : Nat) (s0 : RS) : RS × Prd :=
  let c := s0.name.2
  let s := s0.name.1
  if s.comes bIs then
    if s.pass.comes bNot then (s.pass.pass.need bNull, .mk 7 c 0 ⟨0, 0, ⟨#[]⟩⟩ ⟨#[]⟩ [] [] pos)
    else (s.pass.need bNull, .mk 6 c 0 ⟨0, 0, ⟨#[]⟩⟩ ⟨#[]⟩ [] [] pos)
  else if s.comes bNot then ((amongL c pos s.pass).1, notP (amongL c pos s.pass).2 pos)
  else if s.rel.2 = 0 then amongL c pos s.rel.1
  else if s.rel.1.named then (s.rel.1.name.1, .mk 4 c s.rel.2 ⟨0, 0, ⟨#[]⟩⟩ s.rel.1.name.2 [] [] pos)
  else (s.rel.1.literal.1, .mk 3 c s.rel.2 s.rel.1.literal.2 ⟨#[]⟩ [] [] pos)
def turnR (r : Nat) : Nat := if r = 3 then 5 else if r = 4 then 6 else if r = 5 then 3 else if r = 6 then 4 else r
def truthP (v : Vl) (pos : Nat) (s : RS) : RS × Prd :=
  (if v.k = 1 then s else s.wrong 11, .mk (if v.n = 1 then 1 else 2) ⟨#[]⟩ 0 ⟨0, 0, ⟨#[]⟩⟩ ⟨#[]⟩ [] [] pos)
/-- A one that begins with a literal. -/
def litP (pos : Nat) (s0 : RS) : RS × Prd :=
  let v := s0.literal.2
  let s := s0.literal.1
  if s.rel.2 = 0 then truthP v pos s.rel.1
  else if s.rel.1.named then (s.rel.1.name.1, .mk 3 s.rel.1.name.2 (turnR s.rel.2) v ⟨#[]⟩ [] [] pos)
  else (s.rel.1.literal.1, .mk 11 ⟨#[]⟩ s.rel.2 v ⟨#[]⟩ [s.rel.1.literal.2] [] pos)
/-- A one, so many may stand in one another. -/
def oneF : Nat → RS → RS × Prd
  | 0, s => (s.wrong 12, Prd.none)
  | d + 1, s =>
    if s.comes bNot then ((oneF d s.pass).1, notP (oneF d s.pass).2 s.hd.pos)
    else if s.comes bOpen then
      let r := partsL 9 bOr (partsL 8 bAnd (oneF d)) s.pass
      (r.1.need bShut, r.2)
    else if s.named then nameP s.hd.pos s
    else litP s.hd.pos s
def allF (d : Nat) : RS → RS × Prd := partsL 8 bAnd (oneF d)
def anyF (d : Nat) : RS → RS × Prd := partsL 9 bOr (allF d)

def columnL (s : RS) : RS × Itm := (s.name.1, ⟨0, s.name.2, s.hd.pos⟩)
def aggT (t : ByteArray) : Nat := if t = bCount then 2 else if t = bSum then 3 else if t = bMin then 4 else if t = bMax then 5 else 0
def itemL (s : RS) : RS × Itm :=
  if aggT s.hd.text = 0 then columnL s
  else
    let u := s.pass.need bOpen
    if aggT s.hd.text = 2 ∧ u.comes bStar then (u.pass.need bShut, ⟨1, ⟨#[]⟩, s.hd.pos⟩)
    else (u.name.1.need bShut, ⟨aggT s.hd.text, u.name.2, s.hd.pos⟩)
def keyL (s : RS) : RS × Kyo :=
  let r := itemL s
  if r.1.comes bAsc then (r.1.pass, ⟨r.2, false⟩)
  else if r.1.comes bDesc then (r.1.pass, ⟨r.2, true⟩) else (r.1, ⟨r.2, false⟩)
def limitL (s : RS) : RS × Int :=
  if s.hd.kind = 2 then
    let v := litV s.hd.text
    if v.n < 0 ∨ 1000 < v.n then (s.wrong 1, 0) else (s.pass, v.n)
  else (s.wrong 11, 0)
/-- The parts of a query, one behind the other. -/
def itemsQ (s : RS) : RS × Bool × List Itm :=
  if s.comes bStar then (s.pass, true, []) else ((listF 8 itemL 9 s []).1, false, (listF 8 itemL 9 s []).2)
def whereQ (s : RS) : RS × Prd := if s.comes bWhere then anyF 20 s.pass else (s, Prd.none)
def groupQ (s : RS) : RS × List Itm := if s.comes bGroup then listF 8 columnL 9 (s.pass.need bBy) [] else (s, [])
def orderQ (s : RS) : RS × List Kyo := if s.comes bOrder then listF 8 keyL 9 (s.pass.need bBy) [] else (s, [])
def limitQ (s : RS) : RS × Int := if s.comes bLimit then limitL s.pass else (s, -1)
def queryL (s : RS) : RS × Qry :=
  let a := itemsQ (s.need bSel)
  let b := (a.1.need bFrom).name
  let c := whereQ b.1
  let d := groupQ c.1
  let e := orderQ d.1
  let f := limitQ e.1
  (f.1.fin, ⟨a.2.2, a.2.1, b.2, c.2, d.2, e.2, f.2⟩)
def readQ (s : ByteArray) : RS × Qry × Option (Nat × Nat) := match lexL s with
  | .error e => (⟨[], some e⟩, ⟨[], false, ⟨#[]⟩, Prd.none, [], [], 0⟩, some e)
  | .ok l => ((queryL ⟨l, none⟩).1, (queryL ⟨l, none⟩).2, (queryL ⟨l, none⟩).1.err)
/-- A text's query, or the place and the number of what is wrong. -/
def parseL (s : ByteArray) : Except (Nat × Nat) Qry := match lexL s with
  | .error e => .error e
  | .ok l => match (queryL ⟨l, none⟩).1.err with
    | some e => .error e
    | none => .ok (queryL ⟨l, none⟩).2

/-- The reader's tokens: all but the last are of a kind and have bytes, the last one is the end. -/
def RS.ok (s : RS) : Prop := ∃ f l, s.rest = f ++ [l] ∧ l.kind = 0 ∧ l.text = ⟨#[]⟩ ∧ ∀ t ∈ f, t.kind ≠ 0 ∧ t.text ≠ ⟨#[]⟩
end Go.Proofs.YtppigamibgefaaaGreatDoor
