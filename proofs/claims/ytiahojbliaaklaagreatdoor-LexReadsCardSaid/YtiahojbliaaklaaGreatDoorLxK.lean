/- Layer 10's fixed fact. -/
import Derived.Test.YtiahojbliaaklaaGreatDoorLxL
namespace Go.Proofs.YtiahojbliaaklaaGreatDoor
open Go.RowKit

def txA : ByteArray := ⟨#[97, 62, 61, 45, 53]⟩
def txB : ByteArray := ⟨#[32, 39, 105, 116, 39, 39, 115, 39]⟩
def txC : ByteArray := ⟨#[48, 53]⟩
def txD : ByteArray := ⟨#[83, 101, 108, 101, 99, 116]⟩
theorem lex_A : lexL txA = .ok [⟨1, ⟨#[97]⟩, 0⟩, ⟨4, ⟨#[62, 61]⟩, 1⟩, ⟨2, ⟨#[45, 53]⟩, 3⟩, ⟨0, ⟨#[]⟩, 5⟩] := by rfl
theorem lex_B : lexL txB = .ok [⟨3, ⟨#[39, 105, 116, 39, 39, 115, 39]⟩, 1⟩, ⟨0, ⟨#[]⟩, 8⟩] := by kernel_rfl
theorem lex_C : lexL txC = .error (0, 10) := by rfl
theorem lex_D : lexL txD = .error (0, 10) := by rfl
theorem heap_ltX {w : World} {b : Nat} {o : Obj} (h : w.heap[b]? = some o) : b < w.heap.size := heap_lt h
/-- An own list of tokens that isn't empty: where it lies. -/
theorem own_at {w : World} {B : Nat} {v : Value} {n : Nat} {xs : List Value} (h : w.ownsRow B 31 3 v n xs) (hn : 0 < n) : ∃ g cap, v = .slice (some ⟨g, 0, none⟩) n cap ∧ n ≤ cap ∧ B ≤ g ∧ g < w.heap.size := by
  rcases h.2 with ⟨_, h0⟩ | ⟨g, cap, cur, hv, hb, hg, hc, _⟩
  · omega
  · exact ⟨g, cap, hv, hc, hb, heap_ltX hg⟩
/-- What Lex answers where no token is wrong, and where one is. -/
theorem Lex_ok (G : Nat) (n g m l : Addr) (s : ByteArray) (w : World) (hE : LxEnv G n g m l w) (t : List Tk) (ht : lexL s = .ok t) :
    Calls Tryz.prog 5 #[.string s] w fun e w' => ∃ v, e = .returned (.tuple #[v, .int .i64 0, .int .i64 0]) ∧ w'.ownsRow w.heap.size 31 3 v t.length (t.flatMap Tk.c) ∧ w.grownBy w' none := by
  refine (Lex_any G n g m l s w hE).mono fun e w' h => ?_
  rcases h with ⟨p, c, hr, _⟩ | ⟨t', v, hr, he, ho, hg⟩
  · rw [ht] at hr; cases hr
  · rw [ht] at hr; cases hr; exact ⟨v, he, ho, hg⟩
theorem Lex_bad (G : Nat) (n g m l : Addr) (s : ByteArray) (w : World) (hE : LxEnv G n g m l w) (p c : Nat) (ht : lexL s = .error (p, c)) :
    Calls Tryz.prog 5 #[.string s] w fun e w' => e = .returned (.tuple #[.slice none 0 0, .int .i64 (p : Nat), .int .i64 (c : Nat)]) ∧ w.grownBy w' none := by
  refine (Lex_any G n g m l s w hE).mono fun e w' h => ?_
  rcases h with ⟨p, c, hr, he, hg⟩ | ⟨t', v, hr, _⟩
  · rw [ht] at hr; cases hr; exact ⟨he, hg⟩
  · rw [ht] at hr; cases hr
set_option maxRecDepth 100000 in
set_option maxHeartbeats 3200000 in
theorem awake10_any (G : Nat) (n g m l : Addr) (w : World) (hE : LxEnv G n g m l w) :
    Calls Tryz.prog 4 #[] w fun e w' => e = .returned (.bool true) ∧ w.grownBy w' none := by
  have HA := Lib.hid (fun W (hW : w.grownBy W none) => Lex_ok G n g m l txA W (hE.keep hW) _ lex_A)
  have HB := Lib.hid (fun W (hW : w.grownBy W none) => Lex_ok G n g m l txB W (hE.keep hW) _ lex_B)
  have HC := Lib.hid (fun W (hW : w.grownBy W none) => Lex_bad G n g m l txC W (hE.keep hW) _ _ lex_C)
  have HD := Lib.hid (fun W (hW : w.grownBy W none) => Lex_bad G n g m l txD W (hE.keep hW) _ _ lex_D)
  unfold txA at HA
  unfold txB at HB
  unfold txC at HC
  unfold txD at HD
  clear hE
  go_enter Tryz.func4, Tryz.ntmps4
  go_wp2_with fail
  refine (HA.out _ (grown_reflX _ _)).mono ?_
  rintro e w1 ⟨v, rfl, ho, hg⟩
  obtain ⟨ga, ca, rfl, hca, _, _⟩ := own_at ho (by simp)
  have OA := Lib.hid ho
  have K1 := Lib.hid hg
  clear ho hg
  go_wp2_with fail
  refine (HB.out _ K1.out).mono ?_
  rintro e w2 ⟨v, rfl, ho, hg⟩
  obtain ⟨gb, cb, rfl, hcb, _, _⟩ := own_at ho (by simp)
  have OB := Lib.hid ho
  have L2 := Lib.hid hg
  have K2 := Lib.hid (K1.out.trans hg)
  clear ho hg
  go_wp2_with fail
  refine (HC.out _ K2.out).mono ?_
  rintro e w3 ⟨rfl, hg⟩
  have L3 := Lib.hid hg
  have K3 := Lib.hid (K2.out.trans hg)
  clear hg
  go_wp2_with fail
  refine (HD.out _ K3.out).mono ?_
  rintro e w4 ⟨rfl, hg⟩
  have K4 := Lib.hid (K3.out.trans hg)
  have OA4 := OA.out.kept ((L2.out.trans L3.out).trans hg) (.inr (by simp [Value.ownBlock]))
  have OB4 := OB.out.kept (L3.out.trans hg) (.inr (by simp [Value.ownBlock]))
  have a4 := OA4.cellAt 4 (by simp)
  have a6 := OA4.cellAt 6 (by simp)
  have a7 := OA4.cellAt 7 (by simp)
  have a8 := OA4.cellAt 8 (by simp)
  have b0 := OB4.cellAt 0 (by simp)
  have b2 := OB4.cellAt 2 (by simp)
  simp [Tk.c] at a4 a6 a7 a8 b0 b2 hca hcb
  clear OA4 OB4 hg
  go_wp2_with fail
  go_ret
  exact ⟨rfl, K4.out⟩
end Go.Proofs.YtiahojbliaaklaaGreatDoor
