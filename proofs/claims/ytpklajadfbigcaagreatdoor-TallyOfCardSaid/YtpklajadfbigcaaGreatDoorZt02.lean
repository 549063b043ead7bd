import Derived.Test.YtpklajadfbigcaaGreatDoorZt00
import Derived.Lib.Hide
import Derived.Deep.RegionHeld3
import Derived.Deep.RegionWith
import Derived.Deep.QuietTactic
import Derived.BigQuiet
import Derived.Test.YtpklajadfbigcaaGreatDoorShelf
import Derived.Shelf.Strconv.Itoa3
import Derived.Lib.ItoaMem
import Derived.WalkSmall
set_option linter.unusedSimpArgs false
set_option linter.unusedVariables false
namespace Go.Proofs.YtpklajadfbigcaaGreatDoor
open Go.RowKit

end Go.Proofs.YtpklajadfbigcaaGreatDoor
namespace Go.Proofs.YtpklajadfbigcaaGreatDoor
open Go.RowKit

end Go.Proofs.YtpklajadfbigcaaGreatDoor
namespace Go.Proofs.YtpklajadfbigcaaGreatDoor
open Go.RowKit

def IntsAt (k : IntKind) (w : World) (a : Option Addr) (l : List Int) : Prop :=
  l.length ≤ 9223372036854775807 ∧ (l = [] ∨ ∃ b off, a = some ⟨b, off, none⟩ ∧ b < w.heap.size ∧ ∀ i, i < l.length → w.cell? ⟨b, off + i, none⟩ = some (.int k (l.getD i 0)))
theorem IntsAt.keep {k : IntKind} {w w' : World} {a : Option Addr} {l : List Int} (h : IntsAt k w a l) (hb : Below w.heap.size w w') : IntsAt k w' a l := by
  obtain ⟨h1, h3⟩ := h
  refine ⟨h1, ?_⟩
  rcases h3 with h3 | ⟨b, off, e, hlt, hc⟩
  · exact .inl h3
  · have := hb.size
    exact .inr ⟨b, off, e, by omega, fun i hi => (hb.cell (p := ⟨b, _, none⟩) hlt).trans (hc i hi)⟩
theorem IntsAt.at {k : IntKind} {w : World} {a : Option Addr} {l : List Int} (h : IntsAt k w a l) {i : Nat} (hi : i < l.length) : ∃ b off, a = some ⟨b, off, none⟩ ∧ b < w.heap.size ∧ w.cell? ⟨b, off + i, none⟩ = some (.int k (l.getD i 0)) := by
  rcases h.2 with h3 | ⟨b, off, e, hlt, hc⟩
  · rw [h3] at hi; simp at hi
  · exact ⟨b, off, e, hlt, hc i hi⟩

end Go.Proofs.YtpklajadfbigcaaGreatDoor
namespace Go.Proofs.YtpklajadfbigcaaGreatDoor
namespace Wd

def mkB (h : Int) (l : Nat) : BitVec 128 := BitVec.ofInt 128 (h * 18446744073709551616 + l)
def hN (h : Int) : Nat := (h % 18446744073709551616).toNat
theorem hN_lt (h : Int) : hN h < 18446744073709551616 := by unfold hN; omega
theorem mkB_nat (h : Int) (l : Nat) (hl : l < 18446744073709551616) : mkB h l = BitVec.ofNat 128 (2 ^ 64 * hN h + l) := by
  unfold mkB hN
  apply BitVec.eq_of_toNat_eq
  rw [BitVec.toNat_ofInt, BitVec.toNat_ofNat]
  omega
theorem mkB_bit (h : Int) (l : Nat) (hl : l < 18446744073709551616) {j : Nat} (hj : j < 128) : (mkB h l).getLsbD j = if j < 64 then l.testBit j else (hN h).testBit (j - 64) := by
  rw [mkB_nat h l hl, BitVec.getLsbD_ofNat, Nat.testBit_two_pow_mul_add _ (by omega)]
  simp [hj]
theorem bit_div (n k : Nat) : n.testBit k = decide (n / 2 ^ k % 2 = 1) := by
  rw [Nat.testBit_eq_decide_div_mod_eq]
theorem div_step (n k : Nat) : n / 2 ^ k / 2 = n / 2 ^ (k + 1) := by
  rw [Nat.div_div_eq_div_mul, Nat.pow_succ]
def bF (l hu k : Nat) (j : Nat) : Bool := if j < 64 then decide (j < k) && l.testBit j else decide (j - 64 < k) && hu.testBit (j - 64)
theorem bF_zero (l hu : Nat) : fArr (bF l hu 0) = fArr fun _ => false := fArr_ext fun j _ => by unfold bF; split <;> simp
theorem bF_step (l hu k : Nat) (hk : k < 64) {b c : Bool} (hb : b = l.testBit k) (hc : c = hu.testBit k) :
    fArr (fun j => if j = 64 + k then c else if j = k then b else bF l hu k j) = fArr (bF l hu (k + 1)) := fArr_ext fun j hj => by
  unfold bF
  by_cases e : j = 64 + k
  · subst e; simp [hc, show ¬ 64 + k < 64 by omega]
  · by_cases e' : j = k
    · subst e'; simp [hb, hk]
    · by_cases h1 : j < 64
      · have : (j < k + 1) = (j < k) := by simp; omega
        simp [e, e', h1, this]
      · have : (j - 64 < k + 1) = (j - 64 < k) := by simp; omega
        simp [e, e', h1, this]
theorem bF_end (h : Int) (l : Nat) (hl : l < 18446744073709551616) : fArr (bF l (hN h) 64) = wArr (mkB h l) := fArr_ext fun j hj => by
  rw [mkB_bit h l hl hj]
  unfold bF
  split
  · next h1 => simp [h1]
  · next h1 => have : j - 64 < 64 := by omega
               simp [this]
end Wd
end Go.Proofs.YtpklajadfbigcaaGreatDoor
namespace Go.Proofs.YtpklajadfbigcaaGreatDoor
namespace Wd
open Go.RowKit Go.Sort Go.Lib

def TabW (w : World) : Prop := Lib.TabIs Tryz.prog w "internal/strconv.uint64pow10" .u64 Lib.pow10Tab

theorem below_put {α : Type} [Inhabited α] {w0 w : World} {B blk : Nat} (h : RowKit.Below B w0 w) (hb : B ≤ blk) (enc : α → Value) (off : Nat) (d : Array α) : RowKit.Below B w0 (putRow enc w blk off d) :=
  ⟨h.os, h.tape, h.output, by simp only [putRow, mapBlock, Array.size_modify]; exact h.size, fun k hk => by
    have e : (putRow enc w blk off d).heap[k]? = w.heap[k]? := by
      simp only [putRow, mapBlock, Array.getElem?_modify]
      rw [if_neg (by omega)]
    exact e.trans (h.block k hk)⟩
theorem fmt_small (i : Nat) (hi : i < 100) (w : World) :
    Calls Tryz.prog 91 #[.int .u64 i, .int .i64 10] w fun e w' => e = .returned (.string ⟨(Lib.decDigits i).toArray⟩) ∧ w = w' := by
  obtain ⟨v, hv⟩ : ∃ v, v = Value.string ⟨(Lib.decDigits i).toArray⟩ := ⟨_, rfl⟩
  have HS := Lib.hid (fun w => Tryz.internal_strconv_small i hi w)
  rw [← hv] at HS ⊢
  clear hv
  go_enter Tryz.func91, Tryz.ntmps91
  go_wp2_with fail
  refine (HS.out _).mono ?_
  rintro e w' ⟨rfl, rfl⟩
  go_wp2_with fail
  go_ret
  exact ⟨rfl, rfl⟩

set_option maxHeartbeats 6400000 in
set_option maxRecDepth 100000 in
theorem fmt_great (u : Nat) (h1 : 100 ≤ u) (hu64 : u < 18446744073709551616) (w : World) (htab : TabW w) :
    Calls Tryz.prog 91 #[.int .u64 u, .int .i64 10] w fun e w' => e = .returned (.string ⟨(Lib.decDigits u).toArray⟩) ∧ Below w.heap.size w w' := by
  have hu1 : 1 ≤ u := by omega
  have hnd20 : Lib.nDigits u ≤ 20 := by have := Lib.numDigits_eq u hu1 hu64; split at this <;> omega
  have hal : Tryz.prog.arrayLen 164 = 24 := by kernel_rfl
  have hsl1 : ∀ W, (Instr.sliceAt 164 (.pointer (some ⟨w.heap.size, 0, none⟩)) none (some (.int .i64 (Lib.nDigits u : Int))) none).run Tryz.prog W = .ok (.slice (some ⟨w.heap.size, 0, none⟩) (Lib.nDigits u) 24) W := fun W => by
    rw [run_sliceAt_array_h W 164 ⟨w.heap.size, 0, none⟩ (by kernel_rfl) .i64 (Lib.nDigits u : Int) (by omega) (by rw [hal]; omega)]
    go_simp
  have hH0 : Holds (fun (b : UInt8) => Value.int .u8 (b.toNat : Int)) (w.alloc (.cells Lib.zeros24 164)) w.heap.size 0 (Array.replicate (Lib.nDigits u) 0) := fun j hj => by
    have hj' : j < Lib.nDigits u := by simpa using hj
    refine ⟨?_, World.frozen?_alloc_new _ _ _ _⟩
    rw [World.cell?_alloc_new, Lib.zeros24_at _ (by omega), getElem!_pos _ j hj]
    simp
  have hfmt := Tryz.internal_strconv_formatBase10 w.heap.size 0 24 u (Array.replicate (Lib.nDigits u) 0) (w.alloc (.cells Lib.zeros24 164)) hH0 (by rw [Array.size_replicate]; exact Lib.lt_pow_nDigits u) hu64 (by rw [Array.size_replicate]; omega)
  rw [Array.size_replicate] at hfmt
  have HH0 := Lib.hid hH0
  clear hH0 hal
  go_enter Tryz.func91, Tryz.ntmps91
  go_wp2_with (first
    | (go_at_call 100; refine (Tryz.internal_strconv_numDigits u hu1 hu64 _ (Lib.tabIs_alloc htab _)).mono ?_; rintro e w' ⟨rfl, rfl⟩))
  go_at_call 101
  refine hfmt.mono ?_
  rintro e w' ⟨rfl, k, v', dk, rfl, hF⟩
  have hcv : (convert 44 9 (.slice (some ⟨w.heap.size, 0, none⟩) (Lib.nDigits u) 24)).run Tryz.prog ((putRow (fun (b : UInt8) => Value.int .u8 (b.toNat : Int)) (w.alloc (.cells Lib.zeros24 164)) w.heap.size 0 dk).drewN k) = .ok (.string ⟨(Lib.decDigits u).toArray⟩) ((putRow (fun (b : UInt8) => Value.int .u8 (b.toNat : Int)) (w.alloc (.cells Lib.zeros24 164)) w.heap.size 0 dk).drewN k) := by
    have h := run_convert_bytes_back (P := Tryz.prog) ((putRow (fun (b : UInt8) => Value.int .u8 (b.toNat : Int)) (w.alloc (.cells Lib.zeros24 164)) w.heap.size 0 dk).drewN k) 44 9 5 ⟨w.heap.size, 0, none⟩ 24 (Lib.decDigits u) Tryz.underlying44 Tryz.underlying5 Tryz.underlying9 (fun j hj => by
      rw [Lib.row_is_numeral hF j hj, Lib.add_plain, World.cell?_drewN]
      exact cell?_putRow (fun (b : UInt8) => Value.int .u8 (b.toNat : Int)) _ w.heap.size 0 _ dk HH0.out (by rw [hF.size, Array.size_replicate]) j (by rw [hF.size]; rw [Lib.decDigits_length] at hj; exact hj))
    rw [Lib.decDigits_length] at h
    exact h
  go_wp2_with fail
  go_ret
  exact ⟨rfl, below_drewN (below_put ((RowKit.Below.refl _ _).alloc (Nat.le_refl _) _) (Nat.le_refl _) _ _ _) _⟩

theorem fmt_any (u : Nat) (hu64 : u < 18446744073709551616) (w : World) (htab : TabW w) :
    Calls Tryz.prog 91 #[.int .u64 u, .int .i64 10] w fun e w' => e = .returned (.string ⟨(Lib.decDigits u).toArray⟩) ∧ RowKit.Below w.heap.size w w' := by
  by_cases h : u < 100
  · exact (fmt_small u h w).mono fun e w' ⟨h1, h2⟩ => ⟨h1, by subst h2; exact RowKit.Below.refl _ _⟩
  · exact fmt_great u (by omega) hu64 w htab
theorem format_any (u : Nat) (hu64 : u < 18446744073709551616) (w : World) (htab : TabW w) :
    Calls Tryz.prog 87 #[.int .u64 u, .int .i64 10] w fun e w' => e = .returned (.string ⟨(Lib.decDigits u).toArray⟩) ∧ RowKit.Below w.heap.size w w' := by
  obtain ⟨v, hv⟩ : ∃ v, v = Value.string ⟨(Lib.decDigits u).toArray⟩ := ⟨_, rfl⟩
  have HS := Lib.hid (fmt_any u hu64 w htab)
  rw [← hv] at HS ⊢
  clear hv
  go_enter Tryz.func87, Tryz.ntmps87
  go_wp2_with fail
  refine HS.out.mono ?_
  rintro e w' ⟨rfl, hb⟩
  go_wp2_with fail
  go_ret
  exact ⟨rfl, hb⟩
end Wd
end Go.Proofs.YtpklajadfbigcaaGreatDoor
