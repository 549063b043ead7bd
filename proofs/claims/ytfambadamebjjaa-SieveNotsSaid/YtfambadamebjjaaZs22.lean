import Derived.Test.YtfambadamebjjaaZs20
import Derived.Test.YtfambadamebjjaaZs10
import Derived.Test.YtfambadamebjjaaZs19
import Derived.Test.YtfambadamebjjaaZs02
import Derived.Test.YtfambadamebjjaaZs13
set_option linter.unusedSimpArgs false
set_option linter.unusedVariables false
namespace Go.Proofs.Ytfambadamebjjaa
open Go.RowKit

def TkOk (t : Tk) : Prop := t.kind ≠ 0 ∧ t.text ≠ ⟨#[]⟩ ∧ t.text.size ≤ 1510
theorem lexF_okP (s : ByteArray) (hs : s.size ≤ 1500) : ∀ (f k : Nat) (acc l : List Tk), acc.length ≤ 250 → (∀ t ∈ acc, TkOk t) → k ≤ s.size → s.size + 1 ≤ f + k → lexF s f k acc = .ok l →
  ∃ fr last, l = fr ++ [last] ∧ last.kind = 0 ∧ last.text = ⟨#[]⟩ ∧ fr.length ≤ 250 ∧ ∀ t ∈ fr, TkOk t
 | 0, k, acc, l, _, _, hk, hf, _ => by omega
 | f + 1, k, acc, l, ha, hA, hk, hf, h => by
  have hr := lexF_round s f k acc
  by_cases he : nxt s k = s.size
  ·rw [hr.1 he] at h
   cases h
   exact ⟨acc, _, rfl, rfl, rfl, ha, hA⟩
  ·cases ht : tokL (s.data.toList.drop (nxt s k)) with | mk kd NC =>
   obtain ⟨N, c⟩ := NC
   have h2 := hr.2 he kd N c ht
   by_cases h0 : c = 0
   ·subst h0
    by_cases hl : acc.length = 250
    ·rw [h2.2.1 rfl hl] at h; cases h
    ·rw [h2.2.2 rfl hl] at h
     obtain ⟨t1, t2, _⟩ := tokL_len _ _ _ _ ht
     have t2 := t2 rfl
     rw [List.length_drop] at t1
     have hz : s.data.toList.length = s.size := rfl
     have hn : k ≤ nxt s k := Nat.le_add_right _ _
     have hx : (s.extract (nxt s k) (nxt s k + N)).size = N := by rw [ByteArray.size_extract]; omega
     refine lexF_okP s hs f _ _ l (by simp; omega) (fun t ht' => ?_) (by omega) (by omega) h
     rcases List.mem_append.1 ht' with ht' | ht'
     ·exact hA t ht'
     ·obtain rfl : t = _ := by simpa using ht'
      refine ⟨tokL_kind _ _ _ ht, fun e => ?_, ?_⟩
      ·simp only at e
       rw [e] at hx
       have : (⟨#[]⟩ : ByteArray).size = 0 := rfl
       omega
      ·simp only
       omega
   ·rw [h2.1 h0] at h; cases h
theorem lexL_ok (s : ByteArray) (l : List Tk) (h : lexL s = .ok l) : (⟨l, Option.none⟩ : RS).ok ∧ l.length ≤ 251 ∧ ∀ t ∈ l, t.text.size ≤ 1510 := by
 unfold lexL at h
 split at h
 ·cases h
 ·obtain ⟨fr, la, rfl, h1, h2, h3, h4⟩ := lexF_okP s (by omega) _ 0 [] l (by simp) (by simp) (by omega) (by omega) h
  refine ⟨⟨fr, la, rfl, h1, h2, fun t ht => ⟨(h4 t ht).1, (h4 t ht).2.1⟩⟩, by simp; omega, fun t ht => ?_⟩
  rcases List.mem_append.1 ht with ht | ht
  ·exact (h4 t ht).2.2
  ·obtain rfl : t = la := by simpa using ht
   rw [h2]; decide
end Go.Proofs.Ytfambadamebjjaa
namespace Go.Proofs.Ytfambadamebjjaa
open Go.RowKit

theorem grown_cellR (w : World) (g i : Nat) (u : Value) : w.grownBy (w.setCell ⟨g, i, none⟩ u) (some g) := ⟨rfl, rfl, rfl, by simp [World.setCell], fun _ _ hne => Below.heap_setCell _ _ _ _ (fun e => hne (by rw [e]))⟩
-- {w w' : World} (h : w.grownBy w' none) (row : Option Nat) : w.grownBy w' row := ⟨h.os, h.tape, h.output, h.size, fun i hi _ => h.block i hi (by simp)⟩
end Go.Proofs.Ytfambadamebjjaa
namespace Go.Proofs.Ytfambadamebjjaa

def Pm.z (p : Bool) (x : Pm) : Prd := if p then x.e else x.e.e
structure Psl where
 a : Ptr
 c : Nat
 l : List Pm
instance : Inhabited Psl := ⟨⟨Option.none, 0, []⟩⟩
def Psl.v (x : Psl) : Value := .slice x.a x.l.length x.c
def Pm.ksl : Pm → Psl | .mk _ _ _ _ _ _ _ _ ka kc ks _ => ⟨ka, kc, ks⟩
theorem Pm.ksl_l : ∀ x : Pm, x.ksl.l = x.kids | .mk .. => rfl
def Psl.in (S : Nat → Prop) (w : World) (x : Psl) : Prop := CellsS S w x.a (x.l.flatMap Pm.c) ∧ x.l.length ≤ x.c ∧ PmSs S w x.l
theorem Pm.ksl_in {S : Nat → Prop} {w : World} : ∀ {x : Pm}, PmS S w x → x.ksl.in S w
 | .mk .., h => ⟨h.2.2.1, h.2.2.2.1, h.2.2.2.2⟩
theorem Psl.in.keep {S : Nat → Prop} {w w' : World} {x : Psl} (h : x.in S w) (hk : Stays S w w') : x.in S w' := ⟨h.1.keep hk, h.2.1, h.2.2.keep hk⟩
mutual
def Pm.n : Pm → Nat
 | .mk _ _ _ _ _ _ _ _ _ _ ks _ => 1 + Pm.ns ks
def Pm.ns : List Pm → Nat
 | [] => 0
 | x :: r => x.n + Pm.ns r
end
theorem Pm.n_eq : ∀ x : Pm, x.n = 1 + Pm.ns x.kids | .mk .. => by simp [Pm.n, Pm.kids]
mutual
theorem Pm.n_e : ∀ x : Pm, x.n = x.e.n
 | .mk _ _ _ _ _ _ _ _ _ _ ks _ => by rw [Pm.n, Pm.e, Prd.n, Pm.ns_es ks]
theorem Pm.ns_es : ∀ l : List Pm, Pm.ns l = Prd.ns (Pm.es l)
 | [] => rfl
 | x :: r => by rw [Pm.ns, Pm.es, Prd.ns, Pm.n_e x, Pm.ns_es r]
end
end Go.Proofs.Ytfambadamebjjaa
namespace Go.Proofs.Ytfambadamebjjaa
open Go.RowKit

end Go.Proofs.Ytfambadamebjjaa
