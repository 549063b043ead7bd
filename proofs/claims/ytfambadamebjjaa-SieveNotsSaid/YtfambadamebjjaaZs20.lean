import Derived.Test.YtfambadamebjjaaZs19
import Derived.Test.YtfambadamebjjaaZs14
import Derived.Test.YtfambadamebjjaaZs11
import Derived.Deep.MidRow
set_option linter.unusedSimpArgs false
set_option linter.unusedVariables false
namespace Go.Proofs.Ytfambadamebjjaa
open Go.RowKit

theorem litC_codes (l : List UInt8) : litC l = 0 ∨ litC l = 1 ∨ litC l = 10 := by
 rcases litC_cases l with h | h | h <;> omega
theorem tokL_codes (l : List UInt8) (k n c : Nat) (h : tokL l = (k, n, c)) : c = 0 ∨ c = 1 ∨ c = 10 := by
 match l, h with
 | [], h => simp [tokL] at h; omega
 | a :: r, h =>
  simp only [tokL] at h
  repeat' split at h
  all_goals
   simp only [Prod.mk.injEq] at h
   obtain ⟨_, _, rfl⟩ := h
   first | exact litC_codes _ | simp
theorem lexF_codes (s : ByteArray) : ∀ (f k : Nat) (acc : List Tk) (p c : Nat), lexF s f k acc = .error (p, c) → c = 1 ∨ c = 3 ∨ c = 10 ∨ c = 13
 | 0, _, _, _, _, h => by simp [lexF] at h
 | f + 1, k, acc, p, c, h => by
  have hr := lexF_round s f k acc
  by_cases he : nxt s k = s.size
  ·rw [hr.1 he] at h; cases h
  ·cases ht : tokL (s.data.toList.drop (nxt s k)) with | mk kd NC =>
   obtain ⟨N, d⟩ := NC
   have h2 := hr.2 he kd N d ht
   by_cases h0 : d = 0
   ·by_cases hl : acc.length = 250
    ·rw [h2.2.1 h0 hl] at h; cases h; simp
    ·rw [h2.2.2 h0 hl] at h; exact lexF_codes s f _ _ p c h
   ·rw [h2.1 h0] at h
    cases h
    rcases tokL_codes _ _ _ _ ht with h | h | h <;> omega
theorem lexL_codes (s : ByteArray) (p c : Nat) (h : lexL s = .error (p, c)) : c = 1 ∨ c = 3 ∨ c = 10 ∨ c = 13 := by
 unfold lexL at h
 split at h
 ·cases h; simp
 ·exact lexF_codes s _ _ _ p c h
def LexIs (r : Except (Nat × Nat) (List Tk)) (w : World) (e : Ending) (w' : World) : Prop :=
 (∃ p c, r = .error (p, c) ∧ e = .returned (.tuple #[.slice none 0 0, .int .i64 (p : Nat), .int .i64 (c : Nat)]) ∧ w.grownBy w' none)
 ∨ (∃ t v, r = .ok t ∧ e = .returned (.tuple #[v, .int .i64 0, .int .i64 0]) ∧ w'.ownsRow w.heap.size 94 3 v t.length (t.flatMap Tk.c) ∧ w.grownBy w' none)
end Go.Proofs.Ytfambadamebjjaa
namespace Go.Proofs.Ytfambadamebjjaa
open Go.RowKit

inductive Pm where
 | mk (kind : Nat) (col : ByteArray) (rel : Nat) (val : Vl) (oth : ByteArray) (la : Ptr) (lc : Nat) (list : List Vl) (ka : Ptr) (kc : Nat) (kids : List Pm) (pos : Nat)
mutual
def Pm.e : Pm → Prd
 | .mk k c r v o _ _ l _ _ ks p => .mk k c r v o l (Pm.es ks) p
def Pm.es : List Pm → List Prd
 | [] => []
 | x :: r => x.e :: Pm.es r
end
theorem Pm.es_map (l : List Pm) : Pm.es l = l.map Pm.e := by
 induction l with
 | nil => rfl
 | cons x r ih => simp [Pm.es, ih]
def Pm.none : Pm := .mk 0 ⟨#[]⟩ 0 ⟨0, 0, ⟨#[]⟩⟩ ⟨#[]⟩ Option.none 0 [] Option.none 0 [] 0
instance : Inhabited Pm := ⟨Pm.none⟩
def Pm.c : Pm → List Value
 | .mk k c r v o la lc l ka kc ks p => [.int .i64 k, .string c, .int .i64 r, .int .i64 v.k, .int .i64 v.n, .string v.s, .string o, .slice la l.length lc, .slice ka ks.length kc, .int .i64 p]
def Pm.v (x : Pm) : Value := .agg x.c.toArray
def Pm.kids : Pm → List Pm | .mk _ _ _ _ _ _ _ _ _ _ ks _ => ks
theorem Pm.c_len : ∀ x : Pm, x.c.length = 10 | .mk .. => rfl
theorem Pm.c_one : ∀ x : Pm, ∀ u ∈ x.c, u.oneCell' = true
 | .mk .., u, h => by
  simp only [Pm.c, List.mem_cons, List.not_mem_nil, or_false] at h
  rcases h with rfl | rfl | rfl | rfl | rfl | rfl | rfl | rfl | rfl | rfl <;> rfl
theorem pm_len (l : List Pm) : (l.flatMap Pm.c).length = l.length * 10 := by
 induction l with
 | nil => rfl
 | cons x l ih => rw [List.flatMap_cons, List.length_append, ih, Pm.c_len]; simp; omega
theorem pm_at (l : List Pm) : ∀ i, i < l.length → ∀ j u, (l.getD i default).c[j]? = some u → (l.flatMap Pm.c)[i * 10 + j]? = some u := by
 induction l with
 | nil => intro i hi; simp at hi
 | cons x l ih =>
  intro i hi j u hj
  rw [List.flatMap_cons]
  cases i with
  | zero =>
   have hlt : j < x.c.length := (List.getElem?_eq_some_iff.1 hj).1
   rw [List.getElem?_append_left (by omega)]
   rw [Nat.zero_mul, Nat.zero_add]
   exact hj
  | succ i =>
   rw [List.getElem?_append_right (by rw [Pm.c_len]; omega), Pm.c_len, show (i + 1) * 10 + j - 10 = i * 10 + j by omega]
   exact ih i (by simpa using hi) j u hj
def CellsS (S : Nat → Prop) (w : World) (a : Ptr) (xs : List Value) : Prop := xs = [] ∨ ∃ b off, a = some ⟨b, off, Option.none⟩ ∧ S b ∧ b < w.heap.size ∧ ∀ j u, xs[j]? = some u → w.cell? ⟨b, off + j, Option.none⟩ = some u
theorem CellsS.keep {S : Nat → Prop} {w w' : World} {a : Ptr} {xs : List Value} (h : CellsS S w a xs) (hk : Stays S w w') : CellsS S w' a xs :=
 h.imp id fun ⟨b, off, e, hs, hlt, hc⟩ => ⟨b, off, e, hs, Nat.lt_of_lt_of_le hlt hk.1, fun j u hj => (World.cell?_of_block (a := ⟨b, _, Option.none⟩) (hk.2 b hs hlt)).trans (hc j u hj)⟩
theorem CellsS.mono {S S' : Nat → Prop} {w : World} {a : Ptr} {xs : List Value} (h : CellsS S w a xs) (hs : ∀ b, b < w.heap.size → S b → S' b) : CellsS S' w a xs :=
 h.imp id fun ⟨b, off, e, h1, h2, hc⟩ => ⟨b, off, e, hs b h2 h1, h2, hc⟩
mutual
def PmS (S : Nat → Prop) (w : World) : Pm → Prop
 | .mk _ _ _ _ _ la lc l ka kc ks _ => RwS S w la l ∧ l.length ≤ lc ∧ CellsS S w ka (ks.flatMap Pm.c) ∧ ks.length ≤ kc ∧ PmSs S w ks
def PmSs (S : Nat → Prop) (w : World) : List Pm → Prop
 | [] => True
 | x :: r => PmS S w x ∧ PmSs S w r
end
theorem PmSs_iff {S : Nat → Prop} {w : World} (l : List Pm) : PmSs S w l ↔ ∀ x ∈ l, PmS S w x := by
 induction l with
 | nil => simp [PmSs]
 | cons x r ih => simp [PmSs, ih]
mutual
theorem PmS.keep {S : Nat → Prop} {w w' : World} (hk : Stays S w w') : ∀ {x : Pm}, PmS S w x → PmS S w' x
 | .mk _ _ _ _ _ _ _ _ _ _ _ _, ⟨a, b, c, d, e⟩ => ⟨a.keep hk, b, c.keep hk, d, PmSs.keep hk e⟩
theorem PmSs.keep {S : Nat → Prop} {w w' : World} (hk : Stays S w w') : ∀ {x : List Pm}, PmSs S w x → PmSs S w' x
 | [], _ => trivial
 | _ :: _, ⟨a, b⟩ => ⟨PmS.keep hk a, PmSs.keep hk b⟩
end
mutual
theorem PmS.mono {S S' : Nat → Prop} {w : World} (hs : ∀ b, b < w.heap.size → S b → S' b) : ∀ {x : Pm}, PmS S w x → PmS S' w x
 | .mk _ _ _ _ _ _ _ _ _ _ _ _, ⟨a, b, c, d, e⟩ => ⟨a.mono hs, b, c.mono hs, d, PmSs.mono hs e⟩
theorem PmSs.mono {S S' : Nat → Prop} {w : World} (hs : ∀ b, b < w.heap.size → S b → S' b) : ∀ {x : List Pm}, PmSs S w x → PmSs S' w x
 | [], _ => trivial
 | _ :: _, ⟨a, b⟩ => ⟨PmS.mono hs a, PmSs.mono hs b⟩
end
theorem RwS.nil (S : Nat → Prop) (w : World) (a : Ptr) : RwS S w a [] := ⟨by simp, by simp, .inl rfl⟩
theorem PmS.leaf (S : Nat → Prop) (w : World) (k : Nat) (c : ByteArray) (r : Nat) (v : Vl) (o : ByteArray) (la : Ptr) (lc : Nat) (ka : Ptr) (kc p : Nat) : PmS S w (.mk k c r v o la lc [] ka kc [] p) :=
 ⟨RwS.nil _ _ _, Nat.zero_le _, .inl rfl, Nat.zero_le _, trivial⟩
end Go.Proofs.Ytfambadamebjjaa
