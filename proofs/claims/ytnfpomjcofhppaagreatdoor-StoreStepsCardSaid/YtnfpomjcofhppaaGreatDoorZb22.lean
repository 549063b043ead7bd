/- The document's SameChanges and Same, at changes with their tables' names. The document's Rows; Tells; Do. The document's Same, at commits. -/
import Derived.Test.YtnfpomjcofhppaaGreatDoorZb21
import Derived.Test.YtnfpomjcofhppaaGreatDoorZb18
namespace Go.Proofs.YtnfpomjcofhppaaGreatDoor
open Go.RowKit

theorem cg_mem {l : List Cg} {i : Nat} (hi : i < l.length) : l.getD i default ∈ l := by simp [List.getD, hi]
end Go.Proofs.YtnfpomjcofhppaaGreatDoor
namespace Go.Proofs.YtnfpomjcofhppaaGreatDoor
open Go.RowKit

theorem fromP_nil (l : List Pw) : fromP [] l = l.map Pw.r := by
  unfold fromP
  rw [List.filter_eq_self.2]
  intro x _
  have : ¬ rowsOrd x.k.l [] < 0 := by
    cases x.k.l with
    | nil => simp [rowsOrd]
    | cons a l => simp [rowsOrd]
  simp [this]
set_option maxRecDepth 100000 in
set_option maxHeartbeats 3200000 in
theorem refRowsP_any (S : Nat → Prop) (a : Ptr) (cap : Nat) (l : List Pw) (w : World) (h : PsS S w a l) (hcap : l.length ≤ cap) (hlg : ∀ x ∈ l, x.k.l.all Vl.good = true) :
    Calls Tryz.prog 16 #[.slice a l.length cap] w fun e w' => (∃ ao co, e = .returned (.slice ao l.length co) ∧ l.length ≤ co ∧ RsAt w' ao (l.map Pw.r)) ∧ w.grownBy w' none := by
  have HF := Lib.hid (refFrom_any S a none cap 0 l [] (l.length : Nat) w h hcap ⟨by simp, by simp, .inl rfl⟩ rfl hlg)
  have e : (fromP [] l).take ((l.length : Nat) : Int).toNat = l.map Pw.r := by
    rw [fromP_nil, List.take_of_length_le (by rw [List.length_map, Int.toNat_natCast]; exact Nat.le_refl _)]
  rw [e] at HF
  have HP := Lib.hid h
  have hlen := h.1
  simp only [List.length_nil] at HF
  clear h e hlg
  obtain ⟨n, hn⟩ : ∃ n, n = l.length := ⟨_, rfl⟩
  have Hn := Lib.hid hn
  rw [← hn] at HF hcap hlen ⊢
  clear hn
  go_enter Tryz.func16, Tryz.ntmps16
  go_wp2_with fail
  refine HF.out.mono ?_
  rintro e w1 ⟨⟨v, rfl, ho⟩, hg⟩
  have G := Lib.hid hg
  obtain ⟨ao, co, rfl, hco, hrs⟩ := own_rs (S := S) ho (by rw [List.length_map, ← Hn.out]; omega) (fun x hx => by
    rw [List.mem_map] at hx
    obtain ⟨y, hy, rfl⟩ := hx
    exact (HP.out.2.1 y hy).2.keep (.of hg))
  have hl2 : (l.map Pw.r).length = n := by rw [List.length_map, Hn.out]
  rw [hl2] at hco ⊢
  have D := Lib.hid (And.intro hco hrs)
  clear ho hg hrs hco hl2
  go_wp2_with fail
  go_ret
  exact ⟨⟨ao, co, rfl, D.out.1, D.out.2⟩, G.out⟩
end Go.Proofs.YtnfpomjcofhppaaGreatDoor
namespace Go.Proofs.YtnfpomjcofhppaaGreatDoor
open Go.RowKit

end Go.Proofs.YtnfpomjcofhppaaGreatDoor
