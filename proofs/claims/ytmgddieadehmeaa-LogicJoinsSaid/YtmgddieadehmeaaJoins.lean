/- The law LogicJoins walked: true at any numbers. -/
import Derived.Test.YtmgddieadehmeaaIn
namespace Go.Proofs.Ytmgddieadehmeaa
open Go.RowKit

theorem m3_is (x : Int) : isT (m3 x) := by unfold isT m3; omega
theorem map_is {l : List Int} {k : Nat} (hk : k < (l.map m3).length) : isT ((l.map m3).getD k 0) := by
  have := getD_mem hk
  rw [List.mem_map] at this
  obtain ⟨y, _, e⟩ := this
  rw [← e]
  exact m3_is y

set_option maxHeartbeats 1600000 in
theorem LogicJoins_any (a : Option Addr) (cap : Nat) (l : List Int) (w : World) (h : IntsAt .u8 w a l) (h8 : ∀ x ∈ l, 0 ≤ x ∧ x ≤ 255) :
    Calls Try.prog 3 #[.slice a l.length cap] w fun e w' => e = .returned (.bool true) ∧ Below w.heap.size w w' := by
  have hm := h.1
  have HT := Lib.hid (fun w' (hb : Below w.heap.size w w') hl => truths_any a cap l w' (h.keep hb) h8 hl)
  have Hlen : Hid ((l.map m3).length = l.length) := Lib.hid (by simp)
  have HM := Lib.hid (fun k (hk : k < (l.map m3).length) => map_is hk)
  clear h h8
  generalize l.map m3 = T at *
  generalize l.length = len at *
  go_enter Try.func3, Try.ntmps3
  have hbl : Below w.heap.size w w := Below.refl _ _
  go_wp2_with fail
  refine (awake_any _).mono ?_
  rintro e w1 ⟨rfl, hb1⟩
  replace hbl := hbl.trans (hb1.mono hbl.size)
  clear hb1
  by_cases hl : 1000 < len
  · go_wp2_with fail
    refine (awake_any _).mono ?_
    rintro e w2 ⟨rfl, hb2⟩
    replace hbl := hbl.trans (hb2.mono hbl.size)
    clear hb2
    go_wp2_with fail
    go_ret
    exact ⟨rfl, hbl⟩
  have hl' : len ≤ 1000 := by omega
  clear hl
  go_wp2_with fail
  refine (HT.out _ hbl hl').mono ?_
  rintro e w2 ⟨v, rfl, ho⟩
  obtain ⟨ao, cp, rfl⟩ := ho.slice
  have HI := Lib.hid (ho.ints (by rw [Hlen.out]; omega))
  have HB := Lib.hid (hbl.trans (ho.below.mono hbl.size))
  clear ho hbl HT
  have HA : Hid (∀ w', w' = w2 → Calls Try.prog 13 #[.slice ao len cp] w' fun e w3 => e = .returned (.int .i64 (joinT 0 1 T)) ∧ w' = w3) := Lib.hid fun w' hw => by subst hw; have := and_any ao cp T _ HI.out; rw [Hlen.out] at this; exact this
  have HA' : Hid (∀ w', w' = w2 → Calls Try.prog 14 #[.slice ao len cp] w' fun e w3 => e = .returned (.int .i64 (joinT 0 1 T)) ∧ w' = w3) := Lib.hid fun w' hw => by subst hw; have := refAnd_any ao cp T _ HI.out; rw [Hlen.out] at this; exact this
  have HO : Hid (∀ w', w' = w2 → Calls Try.prog 15 #[.slice ao len cp] w' fun e w3 => e = .returned (.int .i64 (joinT 1 0 T)) ∧ w' = w3) := Lib.hid fun w' hw => by subst hw; have := or_any' ao cp T _ HI.out; rw [Hlen.out] at this; exact this
  have HO' : Hid (∀ w', w' = w2 → Calls Try.prog 16 #[.slice ao len cp] w' fun e w3 => e = .returned (.int .i64 (joinT 1 0 T)) ∧ w' = w3) := Lib.hid fun w' hw => by subst hw; have := refOr_any ao cp T _ HI.out; rw [Hlen.out] at this; exact this
  generalize joinT 0 1 T = x at *
  generalize joinT 1 0 T = y at *
  go_wp2_with fail
  go_loop [18] (fun i => ∃ k : Nat, k ≤ len ∧ i = .int .i64 k) (fun i => len - (intOf i).toNat)
  case atStart => exact ⟨0, Nat.zero_le _, rfl⟩
  case round =>
    obtain ⟨k, hk, rfl⟩ := hrel
    by_cases hlt : k < len
    · obtain ⟨b, off, rfl, hbs, c0⟩ := HI.out.at (i := k) (by rw [Hlen.out]; exact hlt)
      have hz := HM.out k (by rw [Hlen.out]; exact hlt)
      generalize T.getD k 0 = z at *
      have HN := Lib.hid (not_any z)
      have HN' := Lib.hid (fun w => refNot_any z w hz)
      clear hz
      generalize notT z = u at *
      go_wp2_with fail
      refine (HN.out _).mono ?_
      rintro e w3 ⟨rfl, rfl⟩
      go_wp2_with fail
      refine (HN'.out _).mono ?_
      rintro e w3 ⟨rfl, rfl⟩
      go_wp2_with fail
      go_round
      case rel => exact ⟨k + 1, by omega, by go_num⟩
      case measure => simp [intOf]; omega
    · obtain rfl : k = len := by omega
      go_wp2_with fail
      refine (HA.out _ rfl).mono ?_
      rintro e w3 ⟨rfl, rfl⟩
      go_wp2_with fail
      refine (HA'.out _ rfl).mono ?_
      rintro e w3 ⟨rfl, rfl⟩
      go_wp2_with fail
      refine (HO.out _ rfl).mono ?_
      rintro e w3 ⟨rfl, rfl⟩
      go_wp2_with fail
      refine (HO'.out _ rfl).mono ?_
      rintro e w3 ⟨rfl, rfl⟩
      go_wp2_with fail
      go_ret
      exact ⟨ret_bool (by simp), HB.out⟩
end Go.Proofs.Ytmgddieadehmeaa
