import Derived.Test.YtpklajadfbigcaaGreatDoorZt19
import Derived.Test.YtpklajadfbigcaaGreatDoorZt33
import Derived.Test.YtpklajadfbigcaaGreatDoorZt29
import Derived.Test.YtpklajadfbigcaaGreatDoorZt30
import Derived.Test.YtpklajadfbigcaaGreatDoorZt31
import Derived.Test.YtpklajadfbigcaaGreatDoorZt25
import Derived.Test.YtpklajadfbigcaaGreatDoorZt15
set_option linter.unusedSimpArgs false
set_option linter.unusedVariables false
namespace Go.Proofs.YtpklajadfbigcaaGreatDoor
open Go.RowKit
end Go.Proofs.YtpklajadfbigcaaGreatDoor
namespace Go.Proofs.YtpklajadfbigcaaGreatDoor
open Go.RowKit
theorem SR.few {n i c a : Nat} {T : List Tk} {s : RS} (h : SR n T s i c a) (hn : n ≤ 251) : s.rest.length ≤ 252 := by
  rcases h.or with ⟨_, _, _, e⟩ | ⟨_, _, e⟩
  · rw [e, List.length_drop, h.len]; omega
  · omega
end Go.Proofs.YtpklajadfbigcaaGreatDoor
namespace Go.Proofs.YtpklajadfbigcaaGreatDoor
open Go.RowKit
theorem SR.back {n i c a i' c' a' : Nat} {T : List Tk} {t' : RS} (h' : SR n T t' i' c' a') (hk : c ≠ 0 → SR n T t' i c a) (h0 : c' = 0) : c = 0 := by
  by_cases e : c = 0
  · exact e
  · exact ((hk e).err0.1 (h'.err0.2 h0))
section
variable (b o n k : Nat) (T : List Tk) (s : RS) (w : World) (h : TkE b o n k T w) (i c a : Nat) (hs : SR n T s i c a)
include h hs
end
end Go.Proofs.YtpklajadfbigcaaGreatDoor
namespace Go.Proofs.YtpklajadfbigcaaGreatDoor
open Go.RowKit
end Go.Proofs.YtpklajadfbigcaaGreatDoor
namespace Go.Proofs.YtpklajadfbigcaaGreatDoor
open Go.RowKit
set_option linter.unusedVariables false
def colN (M : ByteArray) : List Cl → Nat
  | [] => 0
  | c :: r => if c.n = M then 0 else colN M r + 1
theorem colN_hit (M : ByteArray) : ∀ (l : List Cl) (k : Nat), k < l.length → (∀ j, j < k → (l.getD j default).n ≠ M) → (l.getD k default).n = M → colN M l = k
  | [], k, hk, _, _ => by simp at hk
  | c :: r, 0, _, _, h => by unfold colN; exact if_pos h
  | c :: r, k + 1, hk, hj, h => by
    unfold colN
    rw [if_neg (show c.n ≠ M from hj 0 (Nat.succ_pos _)), colN_hit M r k (by simpa using hk) (fun j hjk => hj (j + 1) (by omega)) h]
theorem colN_none (M : ByteArray) : ∀ (l : List Cl), (∀ j, j < l.length → (l.getD j default).n ≠ M) → colN M l = l.length
  | [], _ => rfl
  | c :: r, h => by
    unfold colN
    rw [if_neg (show c.n ≠ M from h 0 (by simp)), colN_none M r (fun j hj => h (j + 1) (by simpa using hj))]
    rfl
def colR (M : ByteArray) (l : List Cl) : Int := if colN M l < l.length then (colN M l : Int) else -1
def kdS (M : ByteArray) (l : List Cl) : Option Int := if colN M l < l.length then some (l.getD (colN M l) default).k else none
theorem ColsAt.at1 {w : World} {o : Obj} {a : Option Addr} {l : List Cl} (h : ColsAt w.heap.size w a l) {i : Nat} (hi : i < l.length) : ∃ b off, a = some ⟨b, off, none⟩ ∧ b < w.heap.size ∧ (w.alloc o).cell? ⟨b, off + i * 3, none⟩ = some (.string (l.getD i default).n) ∧ (w.alloc o).cell? ⟨b, off + i * 3 + 1, none⟩ = some (.int .i64 (l.getD i default).k) :=
  have hg := World.grownBy_alloc w o none
  (fun ⟨b, off, e, hlt, c0, c1, _⟩ => ⟨b, off, e, hlt, hg.cell c0 (by simp), hg.cell c1 (by simp)⟩) (h.at hi)
set_option maxRecDepth 100000 in
theorem refColumn_any (N : ByteArray) (a : Option Addr) (cap : Nat) (l : List Cl) (K : Int) (M : ByteArray) (w : World) (h : ColsAt w.heap.size w a l) :
    Calls Tryz.prog 43 #[.agg #[.string N, .slice a l.length cap, .int .i64 K], .string M] w fun e w' => e = .returned (.int .i64 (colR M l)) ∧ w.grownBy w' none := by
  have hK := Lib.hid (fun i (hi : i < l.length) => h.at1 (o := .cells #[.string N, .slice a l.length cap, .int .i64 K] 24) hi)
  obtain ⟨q0, q1, q2⟩ : (w.alloc (.cells #[.string N, .slice a l.length cap, .int .i64 K] 24)).cell? ⟨w.heap.size, 0, none⟩ = some (.string N) ∧ (w.alloc (.cells #[.string N, .slice a l.length cap, .int .i64 K] 24)).cell? ⟨w.heap.size, 1, none⟩ = some (.slice a l.length cap) ∧ True := ⟨by rw [cell_of_row _ _ 0 _ _ _ (alc1 w _)]; rfl, by rw [cell_of_row _ _ 1 _ _ _ (alc1 w _)]; rfl, trivial⟩
  have G1 := Lib.hid (gq_al (grown_reflT w none) (.cells #[.string N, .slice a l.length cap, .int .i64 K] 24))
  have HR : Hid (∀ k, k < l.length → (∀ j, j < k → (l.getD j default).n ≠ M) → (l.getD k default).n = M → colR M l = k) := Lib.hid (fun k hk h1 h2 => by unfold colR; rw [colN_hit M l k hk h1 h2, if_pos hk])
  have HN : Hid ((∀ j, j < l.length → (l.getD j default).n ≠ M) → colR M l = -1) := Lib.hid (fun h1 => by unfold colR; rw [colN_none M l h1, if_neg (Nat.lt_irrefl _)])
  generalize colR M l = res at *
  have hmax := h.1
  generalize hn : l.length = n at *
  clear h hn
  go_enter Tryz.func43, Tryz.ntmps43
  go_wp2_with fail
  generalize w.alloc (.cells #[.string N, .slice a n cap, .int .i64 K] 24) = w1 at *
  go_loopw [9] (fun s9 wr => ∃ i : Nat, s9 = .int .i64 i ∧ i ≤ n ∧ Hid (w1.grownBy wr none) ∧ Hid (∀ j, j < i → (l.getD j default).n ≠ M)) (fun s9 _ => n - (intOf s9).toNat)
  case atStart => exact ⟨0, rfl, Nat.zero_le _, Lib.hid (grown_reflT _ _), Lib.hid (fun j hj => by omega)⟩
  case round =>
    obtain ⟨i, rfl, hi, KG, HJ⟩ := hrel
    have GR := Lib.hid (G1.out.trans KG.out)
    have q0r := KG.out.cell q0 (by simp)
    have q1r := KG.out.cell q1 (by simp)
    by_cases hlt : i < n
    · obtain ⟨b, off, rfl, hb, d0, d1⟩ := hK.out i hlt
      have c0 := KG.out.cell d0 (by simp)
      obtain ⟨x, hx⟩ : ∃ x, x = (l.getD i default).n := ⟨_, rfl⟩
      rw [← hx] at c0
      have HX := Lib.hid hx
      clear d0 d1 q0 q1 hx
      have i0 : (0 : Int) ≤ i := by omega
      have i1 : (i : Int) < n := by omega
      by_cases he : x = M
      · obtain rfl := HR.out i hlt HJ.out (HX.out.symm.trans he)
        have k1 : (x.toList == M.toList) = true := by rw [str_dec]; exact decide_eq_true he
        clear he
        go_wp2_with fail
        go_ret
        exact ⟨rfl, GR.out⟩
      · have k1 : (x.toList == M.toList) = false := by rw [str_dec]; exact decide_eq_false he
        have HJ2 : Hid (∀ j, j < i + 1 → (l.getD j default).n ≠ M) := Lib.hid (fun j hj => by
          by_cases e : j = i
          · rw [e, ← HX.out]; exact he
          · exact HJ.out j (by omega))
        clear he
        go_wp2_with fail
        go_roundw
        case rel => exact ⟨i + 1, by go_num, by omega, KG, HJ2⟩
        case measure => simp [intOf]; omega
    · obtain rfl : i = n := by omega
      obtain rfl := HN.out HJ.out
      go_wp2_with fail
      go_ret
      exact ⟨rfl, GR.out⟩
end Go.Proofs.YtpklajadfbigcaaGreatDoor
