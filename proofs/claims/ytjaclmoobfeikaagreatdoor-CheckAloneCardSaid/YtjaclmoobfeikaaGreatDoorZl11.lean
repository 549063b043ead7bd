/- tree's top. The mathematics of tokens: what a text begins with, and all its tokens. tree's turnedRight and turnedLeft. -/
import Derived.Test.YtjaclmoobfeikaaGreatDoorZl10
import Derived.Deep.RegionWith
import Derived.Deep.RegionHeld3
import Derived.BigQuiet
import Derived.StillTailTactics
import Derived.Deep.DeepCutAuto
namespace Go.Proofs.YtjaclmoobfeikaaGreatDoor
open Go.RowKit

end Go.Proofs.YtjaclmoobfeikaaGreatDoor
namespace Go.Proofs.YtjaclmoobfeikaaGreatDoor
open Go.RowKit

def blankB (c : UInt8) : Bool := decide (c.toNat = 9) || decide (c.toNat = 10) || decide (c.toNat = 13) || decide (c.toNat = 32)
def upB (c : UInt8) : Bool := decide (65 ≤ c.toNat) && decide (c.toNat ≤ 90)
/-- May it stand within a word? -/
def partB (c : UInt8) : Bool := letB c || upB c || digB c || decide (c.toNat = 95)
/-- How many bytes at the front fit. -/
def runL (f : UInt8 → Bool) : List UInt8 → Nat
  | [] => 0
  | c :: r => if f c then runL f r + 1 else 0
theorem runL_le (f : UInt8 → Bool) : ∀ l : List UInt8, runL f l ≤ l.length
  | [] => Nat.le_refl _
  | c :: r => by
    simp only [runL]; split
    · have := runL_le f r; simp; omega
    · simp
/-- Behind an opening quote: how many bytes to the closing one's end. -/
def qC : List UInt8 → Option Nat
  | [] => none
  | [c] => if c = 39 then some 1 else none
  | c :: d :: r => if c = 39 then (if d = 39 then (qC r).map (· + 2) else some 1) else (qC (d :: r)).map (· + 1)
/-- How many bytes a text between quotes has behind its first: if none closes it, all. -/
def qN (l : List UInt8) : Nat := (qC l).getD l.length
theorem qC_le : ∀ (n : Nat) (l : List UInt8) (k : Nat), l.length ≤ n → qC l = some k → 1 ≤ k ∧ k ≤ l.length
  | _, [], k, _, h => by simp [qC] at h
  | 0, c :: r, k, hn, _ => by simp at hn
  | n + 1, [c], k, hn, h => by
    rw [qC] at h
    split at h
    · simp at h; subst h; simp
    · simp at h
  | n + 1, c :: d :: r, k, hn, h => by
    rw [qC] at h
    split at h
    · split at h
      · obtain ⟨j, hj, rfl⟩ := Option.map_eq_some_iff.1 h
        have := qC_le n r j (by simp at hn; omega) hj
        simp; omega
      · simp at h; subst h; simp
    · obtain ⟨j, hj, rfl⟩ := Option.map_eq_some_iff.1 h
      have := qC_le n (d :: r) j (by simp at hn; simp; omega) hj
      simp at this ⊢; omega
theorem qN_le (l : List UInt8) : qN l ≤ l.length := by
  unfold qN
  cases h : qC l with
  | none => exact Nat.le_refl _
  | some k => exact (qC_le _ l k (Nat.le_refl _) h).2

/-- What is wrong with a value's text: 0 nothing, 1 too great, 2 no value. -/
def intC (l : List UInt8) : Nat := if wrB l then (if inI (ival l) then 0 else 1) else 2
def textC (o : Option (List UInt8)) : Nat := match o with | none => 2 | some t => if t.length ≤ 60 then 0 else 1
def readC (l : List UInt8) : Nat :=
  if l = [78, 85, 76, 76] then 0 else if l = [70, 65, 76, 83, 69] then 0 else if l = [84, 82, 85, 69] then 0
  else match l with
    | c :: r => if c = 39 then textC (readB r) else intC (c :: r)
    | [] => intC []
theorem textRes_code (o : Option (List UInt8)) : ∃ k n t, textRes o = .tuple #[.agg #[.int .i64 k, .int .i64 n, .string t], .int .i64 (textC o)] := by
  unfold textRes textC
  cases o with
  | none => exact ⟨_, _, _, rfl⟩
  | some t => simp only; split <;> exact ⟨_, _, _, rfl⟩
theorem intRes_code (l : List UInt8) : ∃ k n t, intRes l = .tuple #[.agg #[.int .i64 k, .int .i64 n, .string t], .int .i64 (intC l)] := by
  unfold intRes intC
  split
  · split <;> exact ⟨_, _, _, rfl⟩
  · exact ⟨_, _, _, rfl⟩
theorem readV_code (l : List UInt8) : ∃ k n t, readV l = .tuple #[.agg #[.int .i64 k, .int .i64 n, .string t], .int .i64 (readC l)] := by
  unfold readV readC
  split
  · exact ⟨_, _, _, rfl⟩
  · split
    · exact ⟨_, _, _, rfl⟩
    · split
      · exact ⟨_, _, _, rfl⟩
      · match l with
        | [] => exact intRes_code []
        | c :: r =>
          simp only
          split
          · exact textRes_code _
          · exact intRes_code _
theorem textC_le (o : Option (List UInt8)) : textC o ≤ 2 := by
  unfold textC
  split
  · omega
  · split <;> omega
theorem intC_le (l : List UInt8) : intC l ≤ 2 := by
  unfold intC
  split
  · split <;> omega
  · omega
theorem readC_le (l : List UInt8) : readC l ≤ 2 := by
  unfold readC
  split
  · omega
  · split
    · omega
    · split
      · omega
      · split
        · split
          · exact textC_le _
          · exact intC_le _
        · exact intC_le _

/-- The error's number of a value's text as a token. -/
def litC (l : List UInt8) : Nat := match readC l with | 0 => 0 | 1 => 1 | _ => 10
def words : List (List UInt8) := [[83, 69, 76, 69, 67, 84], [70, 82, 79, 77], [87, 72, 69, 82, 69], [71, 82, 79, 85, 80], [79, 82, 68, 69, 82], [66, 89], [76, 73, 77, 73, 84], [65, 83, 67], [68, 69, 83, 67],
  [65, 78, 68], [79, 82], [78, 79, 84], [73, 83], [73, 78], [66, 69, 84, 87, 69, 69, 78], [78, 85, 76, 76], [84, 82, 85, 69], [70, 65, 76, 83, 69], [67, 79, 85, 78, 84], [83, 85, 77], [77, 73, 78], [77, 65, 88]]
def wordB (l : List UInt8) : Bool := words.contains l
/-- A name, on lists. -/
def nameL (l : List UInt8) : Bool := nameB ⟨l.toArray⟩
/-- How many bytes a sign has; 0: none. -/
def signN (l : List UInt8) : Nat :=
  if Lib.hasPrefix l [60, 62] || Lib.hasPrefix l [60, 61] || Lib.hasPrefix l [62, 61] then 2
  else match l with | c :: _ => if [61, 60, 62, 42, 44, 40, 41].contains c then 1 else 0 | [] => 0
/-- What a text begins with: the kind, how many bytes, the error's number. -/
def tokL (l : List UInt8) : Nat × Nat × Nat := match l with
  | [] => (0, 0, 10)
  | c :: r =>
    if c.toNat = 39 then (3, 1 + qN r, litC ((c :: r).take (1 + qN r)))
    else if c.toNat = 45 then (2, 1 + runL partB r, litC ((c :: r).take (1 + runL partB r)))
    else if digB c then (2, runL partB (c :: r), litC ((c :: r).take (runL partB (c :: r))))
    else if partB c then
      (if wordB ((c :: r).take (runL partB (c :: r))) then (5, runL partB (c :: r), 0)
       else if nameL ((c :: r).take (runL partB (c :: r))) then (1, runL partB (c :: r), 0) else (0, runL partB (c :: r), 10))
    else if signN (c :: r) = 0 then (4, 0, 10) else (4, signN (c :: r), 0)
/-- A token. -/
structure Tk where
  kind : Nat
  text : ByteArray
  pos : Nat
/-- The tokens from a place on, behind those that are there. -/
def lexF (s : ByteArray) : Nat → Nat → List Tk → Except (Nat × Nat) (List Tk)
  | 0, _, acc => .ok acc
  | f + 1, at0, acc =>
    if at0 + runL blankB (s.data.toList.drop at0) = s.size then .ok (acc ++ [⟨0, ⟨#[]⟩, s.size⟩])
    else match tokL (s.data.toList.drop (at0 + runL blankB (s.data.toList.drop at0))) with
      | (k, n, 0) => if acc.length = 250 then .error (at0 + runL blankB (s.data.toList.drop at0), 3)
        else lexF s f (at0 + runL blankB (s.data.toList.drop at0) + n) (acc ++ [⟨k, s.extract (at0 + runL blankB (s.data.toList.drop at0)) (at0 + runL blankB (s.data.toList.drop at0) + n), at0 + runL blankB (s.data.toList.drop at0)⟩])
      | (_, _, c + 1) => .error (at0 + runL blankB (s.data.toList.drop at0), c + 1)
/-- All tokens of a text, or the place and the number of what is wrong. -/
def lexL (s : ByteArray) : Except (Nat × Nat) (List Tk) := if 1500 < s.size then .error (1500, 13) else lexF s (s.size + 1) 0 []

theorem signN_le (l : List UInt8) : signN l ≤ l.length ∧ signN l ≤ 2 := by
  unfold signN
  split
  · rename_i h
    match l, h with
    | [], h => simp [Lib.hasPrefix] at h
    | [a], h => simp [Lib.hasPrefix] at h
    | a :: b :: r, _ => simp
  · split
    · split <;> simp
    · simp
theorem tokL_len (l : List UInt8) (k n c : Nat) (h : tokL l = (k, n, c)) : n ≤ l.length ∧ (c = 0 → 1 ≤ n) ∧ c ≤ 10 := by
  match l, h with
  | [], h => simp [tokL] at h; obtain ⟨rfl, rfl, rfl⟩ := h; simp
  | a :: r, h =>
    have hl : ∀ x, litC x ≤ 10 := fun x => by unfold litC; split <;> omega
    have hr1 := runL_le partB r
    have hr2 := runL_le partB (a :: r)
    have hq := qN_le r
    have hs := signN_le (a :: r)
    simp only [tokL] at h
    have hp : partB a = true → 1 ≤ runL partB (a :: r) := fun h => by simp [runL, h]
    have hd : digB a = true → partB a = true := fun h => by simp [partB, h]
    split at h
    · simp only [Prod.mk.injEq] at h; obtain ⟨_, rfl, rfl⟩ := h; exact ⟨by simp; omega, fun _ => by omega, hl _⟩
    · split at h
      · simp only [Prod.mk.injEq] at h; obtain ⟨_, rfl, rfl⟩ := h; exact ⟨by simp; omega, fun _ => by omega, hl _⟩
      · split at h
        · rename_i hdg
          simp only [Prod.mk.injEq] at h; obtain ⟨_, rfl, rfl⟩ := h; exact ⟨hr2, fun _ => hp (hd hdg), hl _⟩
        · split at h
          · rename_i hpt
            split at h
            · simp only [Prod.mk.injEq] at h; obtain ⟨_, rfl, rfl⟩ := h; exact ⟨hr2, fun _ => hp hpt, by omega⟩
            · split at h <;> (simp only [Prod.mk.injEq] at h; obtain ⟨_, rfl, rfl⟩ := h; exact ⟨hr2, fun _ => hp hpt, by omega⟩)
          · split at h <;> (simp only [Prod.mk.injEq] at h; obtain ⟨_, rfl, rfl⟩ := h)
            · exact ⟨by omega, fun h => by omega, by omega⟩
            · exact ⟨hs.1, fun _ => by omega, by omega⟩
end Go.Proofs.YtjaclmoobfeikaaGreatDoor
namespace Go.Proofs.YtjaclmoobfeikaaGreatDoor
open Go.RowKit

def Box2 (b : Nat) (W : World) (x y : Value) : Prop := W.cell? ⟨b, 0, none⟩ = some x ∧ W.cell? ⟨b, 1, none⟩ = some y
theorem Box2.keep {b : Nat} {W W' : World} {x y : Value} (h : Box2 b W x y) (hg : W.grownBy W' none) : Box2 b W' x y := ⟨hg.cell h.1 (by simp), hg.cell h.2 (by simp)⟩
theorem Box2.new (w : World) (x y : Value) (T : TypeId) : Box2 w.heap.size (w.alloc (.cells #[x, y] T)) x y := ⟨cell_of_row _ _ 0 _ _ _ (heap_alloc_new w _), cell_of_row _ _ 1 _ _ _ (heap_alloc_new w _)⟩
def Box4 (b : Nat) (W : World) (x y z u : Value) : Prop := W.cell? ⟨b, 0, none⟩ = some x ∧ W.cell? ⟨b, 1, none⟩ = some y ∧ W.cell? ⟨b, 2, none⟩ = some z ∧ W.cell? ⟨b, 3, none⟩ = some u
theorem Box4.keep {b : Nat} {W W' : World} {x y z u : Value} (h : Box4 b W x y z u) (hg : W.grownBy W' none) : Box4 b W' x y z u := ⟨hg.cell h.1 (by simp), hg.cell h.2.1 (by simp), hg.cell h.2.2.1 (by simp), hg.cell h.2.2.2 (by simp)⟩
abbrev Ptr := Option Addr
end Go.Proofs.YtjaclmoobfeikaaGreatDoor
