import Derived.Test.YtpklajadfbigcaaGreatDoorZt19
import Derived.Test.YtpklajadfbigcaaGreatDoorZt35
import Derived.Test.YtpklajadfbigcaaGreatDoorZt16
import Derived.Test.YtpklajadfbigcaaGreatDoorZt15
import Derived.Test.YtpklajadfbigcaaGreatDoorZt22
set_option linter.unusedSimpArgs false
set_option linter.unusedVariables false
namespace Go.Proofs.YtpklajadfbigcaaGreatDoor
open Go.RowKit
set_option linter.unusedVariables false
theorem CellsS.take {S : Nat → Prop} {w : World} {a : Ptr} {l : List Itm} (h : CellsS S w a (l.flatMap Itm.c)) (k : Nat) : CellsS S w a ((l.take k).flatMap Itm.c) := by
  rcases h with h | ⟨b, off, e, hS, hlt, hc⟩
  · have h1 := congrArg List.length h
    rw [flat_len Itm.c 3 Itm.c_len, List.length_nil] at h1
    have : l = [] := List.eq_nil_of_length_eq_zero (by omega)
    exact .inl (by rw [this]; simp)
  · refine .inr ⟨b, off, e, hS, hlt, fun j u hj => hc j u ?_⟩
    have : l.flatMap Itm.c = (l.take k).flatMap Itm.c ++ (l.drop k).flatMap Itm.c := by rw [← List.flatMap_append, List.take_append_drop]
    rw [this, List.getElem?_append_left (List.getElem?_eq_some_iff.1 hj).1]
    exact hj
end Go.Proofs.YtpklajadfbigcaaGreatDoor
namespace Go.Proofs.YtpklajadfbigcaaGreatDoor
open Go.RowKit
set_option linter.unusedVariables false
set_option linter.unusedSimpArgs false
end Go.Proofs.YtpklajadfbigcaaGreatDoor
namespace Go.Proofs.YtpklajadfbigcaaGreatDoor
open Go.RowKit
def fewG (l : List Tb) : Bool := decide (l.length ≤ 20) && l.all (fun t => decide (t.l.length ≤ 20))
set_option maxRecDepth 100000 in
set_option maxHeartbeats 1600000 in
theorem fewG_any (a : Option Addr) (cap : Nat) (l : List Tb) (w : World) (h : TabsAt w.heap.size w a l) (hcap : l.length ≤ cap) :
    Calls Tryz.prog 21 #[.slice a l.length cap] w fun e w' => e = .returned (.bool (fewG l)) ∧ w.grownBy w' none := by
  have H := Lib.hid h
  have hn9 := h.1
  obtain ⟨fb, hfb⟩ : ∃ fb, fb = fewG l := ⟨_, rfl⟩
  have HB := Lib.hid hfb
  rw [← hfb]
  clear hfb
  obtain ⟨n, hn⟩ : ∃ n, n = l.length := ⟨_, rfl⟩
  have Hn := Lib.hid hn
  rw [← hn] at hcap hn9 ⊢
  clear h hn
  go_enter Tryz.func21, Tryz.ntmps21
  by_cases h20 : (20 : Int) < n
  · go_wp2_with fail
    go_ret
    exact ⟨ret_bool (by rw [HB.out]; unfold fewG; rw [← Hn.out, show decide (n ≤ 20) = false by simp; omega]; rfl), grown_reflT _ _⟩
  go_wp2_with fail
  go_loopw [10] (fun s10 wr => ∃ j : Nat, s10 = .int .i64 j ∧ j ≤ n ∧ Hid ((∀ i, i < j → (l.getD i default).l.length ≤ 20) ∧ w.grownBy wr none)) (fun s10 _ => n - (intOf s10).toNat)
  case atStart => exact ⟨0, rfl, by omega, Lib.hid ⟨fun i hi => by omega, grown_reflT _ _⟩⟩
  case round =>
    obtain ⟨j, rfl, hj, K⟩ := hrel
    by_cases hlt : j < n
    · obtain ⟨b, off, rfl, _, c0, c1, c2⟩ := (H.out.keep K.out.2 (by simp)).at (i := j) (by rw [← Hn.out]; exact hlt)
      have HX : Hid (∀ q, (l.getD j default).l.length = q → (q ≤ 20 → ∀ i, i < j + 1 → (l.getD i default).l.length ≤ 20) ∧ (20 < q → fewG l = false)) := Lib.hid fun q hq => ⟨fun h i hi => by
        rcases Nat.lt_or_ge i j with e | e
        · exact K.out.1 i e
        · rw [show i = j by omega, hq]; exact h, fun h => by
        unfold fewG
        rw [Bool.and_eq_false_iff]
        right
        rw [List.all_eq_false]
        exact ⟨_, tb_mem (by rw [← Hn.out]; exact hlt), by rw [hq]; simpa using h⟩⟩
      generalize l.getD j default = x at *
      obtain ⟨xn, xa, xc, xl, xk⟩ := x
      simp only at c0 c1 c2 HX
      obtain ⟨xm, hxm⟩ : ∃ xm, xl.length = xm := ⟨_, rfl⟩
      have HX := Lib.hid (HX.out xm hxm)
      rw [hxm] at c1
      clear hxm
      have j0 : (j : Int) ≤ cap := by omega
      have KA := Lib.hid (K.out.2.trans (World.grownBy_alloc wr (.cells #[.string xn, .slice xa xm xc, .int .i64 xk] 24) none))
      by_cases hq : (20 : Int) < xm
      · go_wp2_with fail
        go_ret
        exact ⟨ret_bool (by rw [HB.out]; exact (HX.out.2 (by omega)).symm), KA.out⟩
      · go_wp2_with fail
        go_roundw
        case rel => exact ⟨j + 1, by go_num, by omega, Lib.hid ⟨HX.out.1 (by omega), KA.out⟩⟩
        case measure => simp [intOf]; omega
    · obtain rfl : n = j := by omega
      go_wp2_with fail
      go_ret
      refine ⟨ret_bool ?_, K.out.2⟩
      rw [HB.out]
      unfold fewG
      rw [← Hn.out, show decide (n ≤ 20) = true by simp; omega, Bool.true_and]
      symm
      rw [List.all_eq_true]
      intro t ht
      obtain ⟨i, hi, rfl⟩ := List.getElem_of_mem ht
      have := K.out.1 i (by rw [Hn.out]; exact hi)
      simp only [List.getD, List.getElem?_eq_getElem hi, Option.getD_some] at this
      simpa using this
set_option maxRecDepth 100000 in
theorem goodS_any (a : Option Addr) (cap : Nat) (l : List Tb) (w : World) (h : TabsAt w.heap.size w a l) (hcap : l.length ≤ cap) (hcs : ∀ t ∈ l, t.l.length ≤ t.cap) (hN : ∀ t ∈ l, t.n.size ≤ 9223372036854775807 ∧ ∀ i, i < t.l.length → (t.l.getD i default).n.size ≤ 9223372036854775807) :
    Calls Tryz.prog 7 #[.slice a l.length cap] w fun e w' => (∃ b, e = .returned (.bool b) ∧ (b = true ↔ RightG l ∧ fewG l = true)) ∧ w.grownBy w' none := by
  have HC := Lib.hid (refCheck_all a cap l w h hcap hcs hN)
  have HF := Lib.hid (fun W (hW : w.grownBy W none) => fewG_any a cap l W ((h.keep hW (by simp)).mono hW.size) hcap)
  have HZ : Hid (∀ k y, Flaw6 (FullG l) (MalG l) (TwcG l) l.length k y → y ≠ 0) := Lib.hid fun k y hf => by
    obtain ⟨_, _, hv⟩ := hf
    rcases hv with ⟨_, h⟩ | ⟨_, _, h⟩ | ⟨_, _, _, h⟩ <;> omega
  have HFl : Hid (∀ k y, Flaw6 (FullG l) (MalG l) (TwcG l) l.length k y → ¬ RightG l) := Lib.hid fun k y hf hr => by
    obtain ⟨hk, _, hv⟩ := hf
    have := hr k hk
    rcases hv with ⟨h, _⟩ | ⟨_, h, _⟩ | ⟨_, _, h, _⟩
    · exact h this.1
    · exact h this.2.1
    · exact h this.2.2
  obtain ⟨fb, hfb⟩ : ∃ fb, fb = fewG l := ⟨_, rfl⟩
  rw [← hfb] at HF ⊢
  generalize RightG l = R at *
  generalize l.length = n at *
  clear h hcap hcs hN hfb
  go_enter Tryz.func7, Tryz.ntmps7
  go_wp2_with fail
  refine (HC.out).mono ?_
  rintro e w2 ⟨h, hg⟩
  have G2 := Lib.hid hg
  clear hg
  rcases h with ⟨hr, rfl⟩ | ⟨k, y, hf, rfl⟩
  · have HR := Lib.hid hr
    clear hr HZ
    go_wp2_with fail
    refine (HF.out _ G2.out).mono ?_
    rintro e w3 ⟨rfl, hg⟩
    have G3 := Lib.hid (G2.out.trans hg)
    clear hg
    go_wp2_with fail
    go_ret
    exact ⟨⟨fb, rfl, ⟨fun hb => ⟨HR.out, hb⟩, fun h => h.2⟩⟩, G3.out⟩
  · have hy := HZ.out k y hf
    have HNR := Lib.hid (HFl.out k y hf)
    have hy0 : (y == 0) = false := by rw [beq_eq_false_iff_ne]; exact hy
    clear hf hy HZ
    go_wp2_with fail
    go_ret
    exact ⟨⟨false, rfl, ⟨fun hb => (by cases hb), fun h => absurd h.1 HNR.out⟩⟩, G2.out⟩
end Go.Proofs.YtpklajadfbigcaaGreatDoor
namespace Go.Proofs.YtpklajadfbigcaaGreatDoor
open Go.RowKit
set_option linter.unusedVariables false
end Go.Proofs.YtpklajadfbigcaaGreatDoor
namespace Go.Proofs.YtpklajadfbigcaaGreatDoor
open Go.RowKit
set_option linter.unusedVariables false
theorem TabsAt.one {B : Nat} {w : World} {b : Nat} {t : Tb} {T : TypeId} (h : w.heap[b]? = some (.cells #[.string t.n, .slice t.a t.l.length t.cap, .int .i64 t.k] T (0, 0))) (hb : b < B) (hc : ColsAt B w t.a t.l) : TabsAt B w (some ⟨b, 0, none⟩) [t] := by
  refine ⟨by simp, fun x hx => by rw [List.mem_singleton.1 hx]; exact hc, .inr ⟨b, 0, rfl, hb, fun i hi => ?_⟩⟩
  obtain rfl : i = 0 := by simp at hi; omega
  exact ⟨cell_of_row _ _ 0 _ _ _ h, cell_of_row _ _ 1 _ _ _ h, cell_of_row _ _ 2 _ _ _ h⟩
end Go.Proofs.YtpklajadfbigcaaGreatDoor
