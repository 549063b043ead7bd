import Derived.Test.YtpklajadfbigcaaGreatDoorZt26
import Derived.Laws.Tables
import Derived.Laws.Rows
import Derived.Test.YtpklajadfbigcaaGreatDoorZt22
import Derived.Test.YtpklajadfbigcaaGreatDoorZt07
import Derived.Test.YtpklajadfbigcaaGreatDoorZt14
set_option linter.unusedSimpArgs false
set_option linter.unusedVariables false
namespace Go.Proofs.YtpklajadfbigcaaGreatDoor
open Go.RowKit

theorem PmS.row {B g : Nat} {w w' : World} {x : Pm} (h : PmS (fun j => B ≤ j) w x) (hg : w.grownBy w' (some g)) (hlt : g < B) : PmS (fun j => B ≤ j) w' x :=
  h.keep ⟨hg.size, fun b hb hlt' => hg.block b hlt' (by simp; omega)⟩
theorem ten {cs : Array Value} (h : cs.size = 10) : #[cs[0], cs[1], cs[2], cs[3], cs[4], cs[5], cs[6], cs[7], cs[8], cs[9]] = cs := by
  apply Array.ext
  · simp [h]
  · intro i h1 h2
    have : i = 0 ∨ i = 1 ∨ i = 2 ∨ i = 3 ∨ i = 4 ∨ i = 5 ∨ i = 6 ∨ i = 7 ∨ i = 8 ∨ i = 9 := by omega
    rcases this with rfl | rfl | rfl | rfl | rfl | rfl | rfl | rfl | rfl | rfl <;> rfl
theorem grown_setRow (w : World) (g : Nat) (cs : Array Value) : w.grownBy (w.setRow g cs) (some g) := ⟨rfl, rfl, rfl, by simp, fun k _ hk => setRow_other w g k cs (fun e => hk (by rw [e]))⟩
end Go.Proofs.YtpklajadfbigcaaGreatDoor
namespace Go.Proofs.YtpklajadfbigcaaGreatDoor
open Go.RowKit
theorem SR.failed {n i c a : Nat} {T : List Tk} {s : RS} (h : SR n T s i c a) (hc : c ≠ 0) : s.rest.length = 1 :=
  h.or.elim (fun ⟨_, e, _⟩ => absurd e hc) (fun ⟨_, _, e⟩ => e)
end Go.Proofs.YtpklajadfbigcaaGreatDoor
namespace Go.Proofs.YtpklajadfbigcaaGreatDoor
open Go.RowKit

end Go.Proofs.YtpklajadfbigcaaGreatDoor
namespace Go.Proofs.YtpklajadfbigcaaGreatDoor
open Go.RowKit

theorem val_el : ElT 53 37 (.agg #[.int .i64 0, .int .i64 0, .string ⟨#[]⟩]) 3 32 := ⟨Tryz.underlying53, info_partsT val_infoT, by decide, by decide, by decide⟩
end Go.Proofs.YtpklajadfbigcaaGreatDoor
namespace Go.Proofs.YtpklajadfbigcaaGreatDoor
open Go.RowKit
end Go.Proofs.YtpklajadfbigcaaGreatDoor
