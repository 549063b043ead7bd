import Derived.Test.YtpklajadfbigcaaGreatDoorZt13
import Derived.Test.YtpklajadfbigcaaGreatDoorZt14
import Derived.LaidEql
import Derived.Stop.Asserts
import Derived.RowKitTokens
set_option linter.unusedSimpArgs false
set_option linter.unusedVariables false
namespace Go.Proofs.YtpklajadfbigcaaGreatDoor

mutual
def Prd.n : Prd → Nat
  | .mk _ _ _ _ _ _ ks _ => 1 + Prd.ns ks
def Prd.ns : List Prd → Nat
  | [] => 0
  | x :: r => x.n + Prd.ns r
end
end Go.Proofs.YtpklajadfbigcaaGreatDoor
namespace Go.Proofs.YtpklajadfbigcaaGreatDoor
open Go.RowKit

structure Tb where
  n : ByteArray
  a : Option Addr
  cap : Nat
  l : List Cl
  k : Int
instance : Inhabited Tb := ⟨⟨⟨#[]⟩, none, 0, [], 0⟩⟩
def Tb.v (t : Tb) : Value := .agg #[.string t.n, .slice t.a t.l.length t.cap, .int .i64 t.k]
def TabsAt (B : Nat) (w : World) (a : Option Addr) (l : List Tb) : Prop :=
  l.length ≤ 9223372036854775807 ∧ (∀ t ∈ l, ColsAt B w t.a t.l) ∧ (l = [] ∨ ∃ b off, a = some ⟨b, off, none⟩ ∧ b < B ∧ ∀ i, i < l.length → w.cell? ⟨b, off + i * 3, none⟩ = some (.string (l.getD i default).n) ∧ w.cell? ⟨b, off + i * 3 + 1, none⟩ = some (.slice (l.getD i default).a (l.getD i default).l.length (l.getD i default).cap) ∧ w.cell? ⟨b, off + i * 3 + 2, none⟩ = some (.int .i64 (l.getD i default).k))
theorem TabsAt.keep {B : Nat} {w w' : World} {a : Option Addr} {l : List Tb} (h : TabsAt B w a l) {row : Option Nat} (hg : w.grownBy w' row) (hr : ∀ k, row = some k → B ≤ k) : TabsAt B w' a l := by
  refine ⟨h.1, fun t ht => (h.2.1 t ht).keep hg hr, h.2.2.imp id fun ⟨b, off, e, hlt, hc⟩ => ⟨b, off, e, hlt, fun i hi => ?_⟩⟩
  have hb : some b ≠ row := fun e => by have := hr b e.symm; omega
  exact ⟨hg.cell (hc i hi).1 hb, hg.cell (hc i hi).2.1 hb, hg.cell (hc i hi).2.2 hb⟩
theorem TabsAt.at {B : Nat} {w : World} {a : Option Addr} {l : List Tb} (h : TabsAt B w a l) {i : Nat} (hi : i < l.length) : ∃ b off, a = some ⟨b, off, none⟩ ∧ b < B ∧ w.cell? ⟨b, off + i * 3, none⟩ = some (.string (l.getD i default).n) ∧ w.cell? ⟨b, off + i * 3 + 1, none⟩ = some (.slice (l.getD i default).a (l.getD i default).l.length (l.getD i default).cap) ∧ w.cell? ⟨b, off + i * 3 + 2, none⟩ = some (.int .i64 (l.getD i default).k) := by
  rcases h.2.2 with h | ⟨b, off, e, hlt, hc⟩
  · rw [h] at hi; simp at hi
  · exact ⟨b, off, e, hlt, hc i hi⟩
theorem ColsAt.mono {B B' : Nat} {w : World} {a : Option Addr} {l : List Cl} (h : ColsAt B w a l) (hB : B ≤ B') : ColsAt B' w a l := ⟨h.1, h.2.imp id fun ⟨b, off, e, hlt, hc⟩ => ⟨b, off, e, by omega, hc⟩⟩
theorem TabsAt.mono {B B' : Nat} {w : World} {a : Option Addr} {l : List Tb} (h : TabsAt B w a l) (hB : B ≤ B') : TabsAt B' w a l := ⟨h.1, fun t ht => (h.2.1 t ht).mono hB, h.2.2.imp id fun ⟨b, off, e, hlt, hc⟩ => ⟨b, off, e, by omega, hc⟩⟩
end Go.Proofs.YtpklajadfbigcaaGreatDoor
namespace Go.Proofs.YtpklajadfbigcaaGreatDoor
open Go.RowKit

end Go.Proofs.YtpklajadfbigcaaGreatDoor
namespace Go.Proofs.YtpklajadfbigcaaGreatDoor
open Go.RowKit

end Go.Proofs.YtpklajadfbigcaaGreatDoor
namespace Go.Proofs.YtpklajadfbigcaaGreatDoor
open Go.RowKit Go.Extern.Stop Go.Stop Go.Extern

theorem isTypeOfL (v : Value) (w : World) : (Extern.ReflectliteType.typeOf #[.iface 184 v]).run Tryz.prog w = .ok (.iface 138 (.agg #[.pointer (some ⟨7, 184, none⟩)])) w := by kernel_rfl
theorem isComparableL (w : World) : ((Extern.ReflectliteType.method fun t => do Go.Extern.Rtype.noPackHeld "Comparable" t; (fun a => Value.bool a.comparable) <$> typeInfo t) #[.agg #[.pointer (some ⟨7, 184, none⟩)]]).run Tryz.prog w = .ok (.bool true) w := by kernel_rfl
theorem isMethodComparableL (v : Value) (w : World) : (Go.method 317 138 v "Comparable").run Tryz.prog w = .ok (136, v) w := by kernel_rfl
theorem isCompL : (Tryz.prog.info? 184).map (·.comparable) = some true := by kernel_rfl
theorem isSizeL : (Tryz.prog.info? 206).map (·.size) = some 1 := by kernel_rfl
theorem noIsE (v : Value) (xT : TypeId) (w : World) : (Instr.typeAssert (.iface 184 v) xT 140 true).run Tryz.prog w = .ok (.tuple #[.nilIface, .bool false]) w := run_typeAssert_lacksB Tryz.underlying140 (by kernel_rfl) (by kernel_rfl) v xT w
theorem noUnwrapE (v : Value) (xT : TypeId) (w : World) : (Instr.typeAssert (.iface 184 v) xT 143 true).run Tryz.prog w = .ok (.tuple #[.nilIface, .bool false]) w := run_typeAssert_lacksB Tryz.underlying143 (by kernel_rfl) (by kernel_rfl) v xT w
theorem noUnwrapsE (v : Value) (xT : TypeId) (w : World) : (Instr.typeAssert (.iface 184 v) xT 145 true).run Tryz.prog w = .ok (.tuple #[.nilIface, .bool false]) w := run_typeAssert_lacksB Tryz.underlying145 (by kernel_rfl) (by kernel_rfl) v xT w
end Go.Proofs.YtpklajadfbigcaaGreatDoor
