/- Contracts of the document's ReadString and ReadValue. -/
import Derived.Test.YthdaibmminibhaaDoorRefRn
import Derived.Test.YthdaibmminibhaaDoorBase5
namespace Go.Proofs.YthdaibmminibhaaDoor
open Go.RowKit

theorem BAt.suf {B : Nat} {w : World} {b off : Nat} {l : List UInt8} (h : BAt B w (some ⟨b, off, none⟩) l) {q cap : Nat} (hq : q ≤ l.length) (hc : l.length ≤ cap) : BAt B w (if cap = q then some ⟨b, off, none⟩ else some ⟨b, off + q, none⟩) (l.drop q) := by
  refine ⟨by rw [List.length_drop]; have := h.1; omega, ?_⟩
  rcases h.2 with h0 | ⟨b', off', e, hlt, hcell⟩
  · exact .inl (by rw [h0]; simp)
  · simp only [Option.some.injEq, Addr.mk.injEq] at e
    obtain ⟨rfl, rfl, _⟩ := e
    by_cases e : cap = q
    · exact .inl (List.drop_eq_nil_of_le (by omega))
    · rw [if_neg e]
      refine .inr ⟨b, off + q, rfl, hlt, fun i hi => ?_⟩
      rw [List.length_drop] at hi
      have := hcell (q + i) (by omega)
      rw [Nat.add_assoc, this]
      simp [List.getD, List.getElem?_drop]
def rsV : Option (List UInt8 × Nat) → Value
  | some (t, k) => .tuple #[.string ⟨t.toArray⟩, .int .i64 k]
  | none => .tuple #[.string ⟨#[]⟩, .int .i64 0]
set_option maxRecDepth 100000 in
set_option maxHeartbeats 3200000 in
theorem refReadString_any (most : Nat) (a : Option Addr) (cap : Nat) (l : List UInt8) (w : World) (hb : BAt w.heap.size w a l) (hc : l.length ≤ cap) (hm : cap ≤ 9223372036854775807) (hmost : most ≤ 9223372036854775807) :
    Calls Tryd.prog 27 #[.slice a l.length cap, .int .u64 most] w fun e w' => e = .returned (rsV (readS most l)) ∧ w = w' := by
  have HR := Lib.hid (refReadNumber_any a cap l w hb)
  unfold readS
  cases hr : readN l with
  | none =>
    rw [hr] at HR
    generalize l.length = len at *
    clear hr hb
    go_enter Tryd.func27, Tryd.ntmps27
    go_wp2_with fail
    refine HR.out.mono ?_
    rintro e w1 ⟨rfl, rfl⟩
    unfold rnV
    go_wp2_with fail
    go_ret2
    exact ⟨rfl, rfl⟩
  | some x =>
    obtain ⟨n, k⟩ := x
    rw [hr] at HR
    obtain ⟨_, hk1, hk2, hn64, hk10⟩ := readN_some hr
    have hk0 : ((k : Int) == 0) = false := beq_eq_false_iff_ne.2 (by omega)
    simp only
    by_cases h1 : n ≤ most ∧ n ≤ l.length - k
    · rw [if_pos h1]
      obtain ⟨h2, h3⟩ := h1
      obtain ⟨b, off, rfl, _, _⟩ := hb.at (i := 0) (by omega)
      have HX := Lib.hid (fun W (hW : W = w) => hW ▸ hb.text2 (q := k) (n := n) (cap := cap) (by omega) hc)
      have e2 : IntKind.i64.wrap (n : Int) = n := IntWalk.i64_in _ (by omega)
      have e1 : IntKind.u64.wrap ((l.length : Int) - k) = (l.length : Int) - k := wrap_u64_lt (by omega) (by have := hb.1; omega)
      have h2' : (n : Int) ≤ most := by omega
      have h3' : (n : Int) ≤ (l.length : Int) - k := by omega
      have Ht := Lib.hid (show n = 0 → (l.drop k).take n = [] from fun e => by rw [e]; simp)
      generalize (l.drop k).take n = t at *
      generalize l.length = len at *
      clear hr hb h2 h3
      have j1 : (k : Int) + n ≤ cap := by omega
      have j2 : (k : Int) ≤ k + n := by omega
      go_enter Tryd.func27, Tryd.ntmps27
      go_wp2_with fail
      refine HR.out.mono ?_
      rintro e w1 ⟨rfl, rfl⟩
      have hx := HX.out w rfl
      unfold rnV
      by_cases hcap : cap = k
      · clear hx
        obtain rfl : n = 0 := by omega
        obtain rfl := Ht.out rfl
        obtain rfl := hcap
        have hx : ∀ c, (convert 32 9 (.slice (some ⟨b, off, none⟩) 0 c)).run Tryd.prog w = .ok (.string ⟨#[]⟩) w := fun c => run_convert_bytes_back w _ _ 5 ⟨b, off, none⟩ c [] Tryd.underlying32 Tryd.underlying5 Tryd.underlying9 (fun j hj => by simp at hj)
        go_wp2_with fail
        go_ret2
        exact ⟨rfl, rfl⟩
      · rw [if_neg hcap, Nat.add_sub_cancel_left] at hx
        go_wp2_with fail
        go_ret2
        exact ⟨by unfold rsV; push_cast; rfl, rfl⟩
    · rw [if_neg h1]
      have e1 : IntKind.u64.wrap ((l.length : Int) - k) = (l.length : Int) - k := wrap_u64_lt (by omega) (by have := hb.1; omega)
      have key : (most : Int) < n ∨ ((n : Int) ≤ most ∧ (l.length : Int) - k < n) := by omega
      generalize l.length = len at *
      clear hr hb h1
      rcases key with h1 | ⟨h1, h2⟩
      all_goals
        go_enter Tryd.func27, Tryd.ntmps27
        go_wp2_with fail
        refine HR.out.mono ?_
        rintro e w1 ⟨rfl, rfl⟩
        unfold rnV
        go_wp2_with fail
        go_ret2
        exact ⟨rfl, rfl⟩
end Go.Proofs.YthdaibmminibhaaDoor
