import Derived.Test.YtfambadamebjjaaZs12
import Derived.LaidEql
import Derived.Stop.Asserts
import Derived.RowKitTokens
set_option linter.unusedSimpArgs false
set_option linter.unusedVariables false
namespace Go.Proofs.Ytfambadamebjjaa
open Go.RowKit

structure Tb where
 n : ByteArray
 a : Option Addr
 cap : Nat
 l : List Cl
 k : Int
instance : Inhabited Tb := ⟨⟨⟨#[]⟩, none, 0, [], 0⟩⟩
def Tb.v (t : Tb) : Value := .agg #[.string t.n, .slice t.a t.l.length t.cap, .int .i64 t.k]
def TabsAt (B : Nat) (w : World) (a : Option Addr) (l : List Tb) : Prop :=
 l.length ≤ 9223372036854775807 ∧ (∀ t ∈ l, ColsAt B w t.a t.l) ∧ (l = [] ∨ ∃ b off, a = some ⟨b, off, none⟩ ∧ b < B ∧ ∀ i, i < l.length → w.cell? ⟨b, off + i * 3, none⟩ = some (.string (l.getD i default).n) ∧ w.cell? ⟨b, off + i * 3 + 1, none⟩ = some (.slice (l.getD i default).a (l.getD i default).l.length (l.getD i default).cap) ∧ w.cell? ⟨b, off + i * 3 + 2, none⟩ = some (.int .i64 (l.getD i default).k))
theorem TabsAt.keep {B : Nat} {w w' : World} {a : Option Addr} {l : List Tb} (h : TabsAt B w a l) {row : Option Nat} (hg : w.grownBy w' row) (hr : ∀ k, row = some k → B ≤ k) : TabsAt B w' a l := by
 refine ⟨h.1, fun t ht => (h.2.1 t ht).keep hg hr, h.2.2.imp id fun ⟨b, off, e, hlt, hc⟩ => ⟨b, off, e, hlt, fun i hi => ?_⟩⟩
 have hb : some b ≠ row := fun e => by have := hr b e.symm; omega
 exact ⟨hg.cell (hc i hi).1 hb, hg.cell (hc i hi).2.1 hb, hg.cell (hc i hi).2.2 hb⟩
theorem TabsAt.at {B : Nat} {w : World} {a : Option Addr} {l : List Tb} (h : TabsAt B w a l) {i : Nat} (hi : i < l.length) : ∃ b off, a = some ⟨b, off, none⟩ ∧ b < B ∧ w.cell? ⟨b, off + i * 3, none⟩ = some (.string (l.getD i default).n) ∧ w.cell? ⟨b, off + i * 3 + 1, none⟩ = some (.slice (l.getD i default).a (l.getD i default).l.length (l.getD i default).cap) ∧ w.cell? ⟨b, off + i * 3 + 2, none⟩ = some (.int .i64 (l.getD i default).k) := by
 rcases h.2.2 with h | ⟨b, off, e, hlt, hc⟩
 ·rw [h] at hi; simp at hi
 ·exact ⟨b, off, e, hlt, hc i hi⟩
theorem ColsAt.mono {B B' : Nat} {w : World} {a : Option Addr} {l : List Cl} (h : ColsAt B w a l) (hB : B ≤ B') : ColsAt B' w a l := ⟨h.1, h.2.imp id fun ⟨b, off, e, hlt, hc⟩ => ⟨b, off, e, by omega, hc⟩⟩
theorem TabsAt.mono {B B' : Nat} {w : World} {a : Option Addr} {l : List Tb} (h : TabsAt B w a l) (hB : B ≤ B') : TabsAt B' w a l := ⟨h.1, fun t ht => (h.2.1 t ht).mono hB, h.2.2.imp id fun ⟨b, off, e, hlt, hc⟩ => ⟨b, off, e, by omega, hc⟩⟩
end Go.Proofs.Ytfambadamebjjaa
namespace Go.Proofs.Ytfambadamebjjaa
open Go.RowKit

end Go.Proofs.Ytfambadamebjjaa
namespace Go.Proofs.Ytfambadamebjjaa
open Go.RowKit

end Go.Proofs.Ytfambadamebjjaa
namespace Go.Proofs.Ytfambadamebjjaa
open Go.RowKit Go.Extern.Stop Go.Stop Go.Extern

end Go.Proofs.Ytfambadamebjjaa
