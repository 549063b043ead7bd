import Derived.Test.YtpklajadfbigcaaGreatDoorZt30
import Derived.Deep.Cut
import Derived.Test.YtpklajadfbigcaaGreatDoorZt22
import Derived.Test.YtpklajadfbigcaaGreatDoorZt27
set_option linter.unusedSimpArgs false
set_option linter.unusedVariables false
namespace Go.Proofs.YtpklajadfbigcaaGreatDoor
open Go.RowKit

end Go.Proofs.YtpklajadfbigcaaGreatDoor
namespace Go.Proofs.YtpklajadfbigcaaGreatDoor
open Go.RowKit

end Go.Proofs.YtpklajadfbigcaaGreatDoor
namespace Go.Proofs.YtpklajadfbigcaaGreatDoor
open Go.RowKit

end Go.Proofs.YtpklajadfbigcaaGreatDoor
namespace Go.Proofs.YtpklajadfbigcaaGreatDoor
open Go.RowKit

theorem grown_onlyN {M : Nat → Prop} {w w' w'' : World} (h : w.grownBy w' none) (o : Only M w' w'') (hM : ∀ k, M k → w.heap.size ≤ k) : w.grownBy w'' none :=
  ⟨by first | exact h.os.trans o.os | exact o.os.trans h.os, by first | exact h.tape.trans o.tape | exact o.tape.trans h.tape, by first | exact h.output.trans o.output | exact o.output.trans h.output, Nat.le_trans h.size o.size, fun k hk _ => (o.block k (Nat.lt_of_lt_of_le hk h.size) (fun e => by have := hM k e; omega)).trans (h.block k hk (by simp))⟩
end Go.Proofs.YtpklajadfbigcaaGreatDoor
namespace Go.Proofs.YtpklajadfbigcaaGreatDoor
open Go.RowKit

theorem CellsS.at {S : Nat → Prop} {w : World} {ad : Addr} {xs : List Value} (h : CellsS S w (some ad) xs) : ∀ j u, xs[j]? = some u → w.cell? (ad.add j) = some u := by
  intro j u hj
  rcases h with rfl | ⟨b, off, e, _, _, hc⟩
  · simp at hj
  · cases e
    rw [add_atT]
    exact hc j u hj
end Go.Proofs.YtpklajadfbigcaaGreatDoor
