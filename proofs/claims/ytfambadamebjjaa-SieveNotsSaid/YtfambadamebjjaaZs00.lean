import Derived.Test.YtfambadamebjjaaRows
import Derived.WalkKit
import Derived.WalkSpells
import Derived.WalkLawsBesides
import Derived.Test.YtfambadamebjjaaProg
import Derived.LaidEql
import Derived.Stop.Asserts
import Derived.RowKitTokens
import Derived.Lib.Hide
import Derived.Maps.AppendAt
import Derived.Deep.AppendLies
import Derived.Laws.Rows
set_option linter.unusedSimpArgs false
set_option linter.unusedVariables false
namespace Go.Proofs.Ytfambadamebjjaa
open Go.RowKit

def goodB (k n : Int) (s : ByteArray) : Bool :=
 if k = 0 then n == 0 && s.toList.isEmpty
 else if k = 1 then (n == 0 || n == 1) && s.toList.isEmpty
 else if k = 2 then s.toList.isEmpty
 else if k = 3 then n == 0 && decide (s.size ≤ 60)
 else false

theorem ret_bool {a b : Bool} (h : a = b) : Ending.returned (.bool a) = .returned (.bool b) := by rw [h]
theorem ret_int {k : IntKind} {a b : Int} (h : a = b) : Ending.returned (.int k a) = .returned (.int k b) := by rw [h]

set_option maxHeartbeats 400000 in
theorem refGood_any (k n : Int) (s : ByteArray) (w : World) :
  Calls Try.prog 44 #[.agg #[.int .i64 k, .int .i64 n, .string s]] w fun e w' => e = .returned (.bool (goodB k n s)) ∧ Below w.heap.size w w' := by
 go_enter Try.func44, Try.ntmps44
 go_wp2
 all_goals
  go_ret
  refine ⟨ret_bool ?_, (Below.refl _ _).alloc (Nat.le_refl _) _⟩
  simp_all [goodB]
  all_goals first | done | omega | (intro _; omega)
end Go.Proofs.Ytfambadamebjjaa
namespace Go.Proofs.Ytfambadamebjjaa
open Go.RowKit

def inI (n : Int) : Bool := decide (-9223372036854775808 ≤ n) && decide (n ≤ 9223372036854775807)
theorem inI_iff {n : Int} : inI n = true ↔ -9223372036854775808 ≤ n ∧ n ≤ 9223372036854775807 := by simp [inI]

end Go.Proofs.Ytfambadamebjjaa
namespace Go.Proofs.Ytfambadamebjjaa

inductive Tr (K R : Type) where
 | nil : Tr K R
 | node : Tr K R → K → R → Tr K R → Tr K R
namespace Tr
variable {K R : Type}
def h : Tr K R → Nat
 | nil => 0
 | node l _ _ r => max (h l) (h r) + 1
def n : Tr K R → Nat
 | nil => 0
 | node l _ _ r => n l + 1 + n r
def rotR (l : Tr K R) (k : K) (v : R) (r : Tr K R) : Tr K R :=
 match l with
 | nil => node nil k v r
 | node ll lk lv lr =>
  if h lr ≤ h ll then node ll lk lv (node lr k v r) else
  match lr with
  | nil => node (node ll lk lv nil) k v r
  | node a ik iv b => node (node ll lk lv a) ik iv (node b k v r)
def rotL (l : Tr K R) (k : K) (v : R) (r : Tr K R) : Tr K R :=
 match r with
 | nil => node l k v nil
 | node rl rk rv rr =>
  if h rl ≤ h rr then node (node l k v rl) rk rv rr else
  match rl with
  | nil => node l k v (node nil rk rv rr)
  | node a ik iv b => node (node l k v a) ik iv (node b rk rv rr)
def bal (l : Tr K R) (k : K) (v : R) (r : Tr K R) : Tr K R :=
 if h l = h r + 2 then rotR l k v r else if h r = h l + 2 then rotL l k v r else node l k v r
def ok : Tr K R → Prop
 | nil => True
 | node l _ _ r => ok l ∧ ok r ∧ h l ≤ h r + 1 ∧ h r ≤ h l + 1
variable (c : K → K → Int)
def put (k : K) (v : R) : Tr K R → Tr K R
 | nil => node nil k v nil
 | node l k' v' r => if c k k' < 0 then bal (put k v l) k' v' r else if 0 < c k k' then bal l k' v' (put k v r) else node l k v r
def fst : Tr K R → Option (K × R)
 | nil => none
 | node l k v _ => match fst l with | none => some (k, v) | some x => some x
variable {c}
end Tr
end Go.Proofs.Ytfambadamebjjaa
namespace Go.Proofs.Ytfambadamebjjaa
open Go.RowKit Go.Extern.Stop Go.Stop Go.Extern

/-! ### at F -/
end Go.Proofs.Ytfambadamebjjaa
