/- Contracts of the program's Sum and tail. -/
import Derived.Test.YthdaibmminibhaaDoorRdr
import Derived.Test.YthdaibmminibhaaDoorCrcM
import Derived.Lib.LaidTab
namespace Go.Proofs.YthdaibmminibhaaDoor
open Go.RowKit

def turnsL : List Int := [0, 498536548, 997073096, 651767980, 1994146192, 1802195444, 1303535960, 1342533948, 3988292384, 4027552580, 3604390888, 3412177804, 2607071920, 2262029012, 2685067896, 3183342108]
/-- The table lies in memory. -/
def Turns (w : World) : Prop := ∀ i : Nat, i < 16 → w.cell? ⟨4, i, none⟩ = some (.int .u32 (Crc.tblW i : Nat))
theorem Turns.keep {w w' : World} (h : Turns w) (hg : w.grownBy w' none) : Turns w' := fun i hi => hg.cell (h i hi) (by simp)
theorem xor_u32 (a b : BitVec 32) : bits .xor .u32 (a.toNat : Int) (b.toNat : Int) = ((a ^^^ b).toNat : Int) := by
  show IntKind.u32.wrap ((BitVec.ofInt 32 (a.toNat : Int) ^^^ BitVec.ofInt 32 (b.toNat : Int)).toNat : Int) = _
  have e : ∀ c : BitVec 32, BitVec.ofInt 32 (c.toNat : Int) = c := fun c => by rw [BitVec.ofInt_natCast]; simp
  rw [e, e]
  generalize a ^^^ b = z
  have := z.isLt
  simp [IntKind.wrap, IntKind.signed, IntKind.bits]
  omega
theorem tblW_lt (i : Nat) : Crc.tblW i < 4294967296 := by
  by_cases h : i < 16
  · have : ∀ j : Fin 16, Crc.tblW j.val < 4294967296 := by decide
    exact this ⟨i, h⟩
  · unfold Crc.tblW
    rw [List.getD_eq_getElem?_getD, List.getElem?_eq_none (by simp; omega)]
    simp
/-- Four bits' letters. -/
theorem four_step (c : BitVec 32) : ∃ i m : Nat, ((c.toNat : Int) % 16) = (i : Int) ∧ i < 16 ∧ bits .xor .u32 ((c.toNat : Int) / 16) (Crc.tblW i : Nat) = (m : Int) ∧ m = (Crc.stpN 4 c).toNat := by
  refine ⟨c.toNat % 16, _, rfl, Nat.mod_lt _ (by omega), ?_, rfl⟩
  rw [Crc.stp4]
  have h0 : (c >>> 4).toNat = c.toNat / 16 := by rw [BitVec.toNat_ushiftRight, Nat.shiftRight_eq_div_pow]
  have h1 : ((c.toNat : Int) / (16 : Int)) = ((c >>> 4).toNat : Int) := by rw [h0]; omega
  have h2 : ((Crc.tblW (c.toNat % 16) : Nat) : Int) = ((BitVec.ofNat 32 (Crc.tblW (c.toNat % 16))).toNat : Int) := by
    have := tblW_lt (c.toNat % 16)
    rw [BitVec.toNat_ofNat, Nat.mod_eq_of_lt (show Crc.tblW (c.toNat % 16) < 2 ^ 32 from this)]
  rw [h1, h2]
  exact xor_u32 _ _
theorem byte_step (x : BitVec 32) (y : UInt8) : ∃ n i m j k : Nat, bits .xor .u32 (x.toNat : Int) ((y.toNat : Int) % 4294967296) = (n : Int) ∧ n < 4294967296 ∧ ((n : Int) % 16) = (i : Int) ∧ i < 16 ∧ bits .xor .u32 ((n : Int) / 16) (Crc.tblW i : Nat) = (m : Int) ∧ m < 4294967296
      ∧ ((m : Int) % 16) = (j : Int) ∧ j < 16 ∧ bits .xor .u32 ((m : Int) / 16) (Crc.tblW j : Nat) = (k : Int) ∧ k = (Crc.byt x y).toNat := by
  have hy := y.toNat_lt
  obtain ⟨i, m, a1, a2, a3, a4⟩ := four_step (x ^^^ BitVec.ofNat 32 y.toNat)
  obtain ⟨j, k, b1, b2, b3, b4⟩ := four_step (Crc.stpN 4 (x ^^^ BitVec.ofNat 32 y.toNat))
  refine ⟨(x ^^^ BitVec.ofNat 32 y.toNat).toNat, i, m, j, k, ?_, BitVec.isLt _, a1, a2, a3, by rw [a4]; exact BitVec.isLt _, by rw [a4]; exact b1, b2, by rw [a4]; exact b3, by rw [b4]; unfold Crc.byt; rw [← Crc.stpN_add]⟩
  have h : ((y.toNat : Int) % 4294967296) = ((BitVec.ofNat 32 y.toNat).toNat : Int) := by rw [BitVec.toNat_ofNat]; omega
  rw [h]
  exact xor_u32 _ _
theorem not_u32 (x : BitVec 32) : bits .xor .u32 4294967295 (x.toNat : Int) = ((~~~ x).toNat : Int) := by
  have := xor_u32 (BitVec.allOnes 32) x
  rw [BitVec.allOnes_xor] at this
  exact this
theorem run_take {l : List UInt8} {k : Nat} (h : k < l.length) (c : BitVec 32) : Crc.run c (l.take (k + 1)) = Crc.byt (Crc.run c (l.take k)) (l.getD k 0) := by
  rw [List.take_succ_eq_append_getElem h]
  unfold Crc.run
  rw [List.foldl_append]
  simp [List.getD, h]
set_option maxRecDepth 100000 in
set_option maxHeartbeats 1600000 in
theorem sum_any (a : Option Addr) (cap : Nat) (l : List UInt8) (w : World) (hb : BAt w.heap.size w a l) (ht : Turns w) :
    Calls Tryd.prog 65 #[.slice a l.length cap] w fun e w' => e = .returned (.int .u32 ((Crc.crc l).toNat : Int)) ∧ w = w' := by
  have hm := hb.1
  have HB := Lib.hid hb
  have HT := Lib.hid ht
  clear hb ht
  generalize hlen : l.length = len at *
  have Hlen := Lib.hid hlen
  clear hlen
  go_enter Tryd.func65, Tryd.ntmps65
  go_wp2_with fail
  go_loop [3, 8] (fun c i => ∃ (k : Nat) (x : BitVec 32), k ≤ len ∧ i = .int .i64 k ∧ c = .int .u32 (x.toNat : Int) ∧ Hid (x = Crc.run (BitVec.allOnes 32) (l.take k))) (fun _ i => len - (intOf i).toNat)
  case atStart => exact ⟨0, BitVec.allOnes 32, Nat.zero_le _, rfl, by rw [BitVec.toNat_allOnes]; rfl, Lib.hid rfl⟩
  case round =>
    obtain ⟨k, x, hk, rfl, rfl, E⟩ := hrel
    by_cases hlt : k < len
    · obtain ⟨b, off, rfl, hbs, c0⟩ := HB.out.at (i := k) (by rw [Hlen.out]; exact hlt)
      have E2 := run_take (l := l) (k := k) (by rw [Hlen.out]; exact hlt) (BitVec.allOnes 32)
      rw [← E.out] at E2
      generalize l.getD k 0 = y at *
      obtain ⟨n, i, m, j, z, g1, g2, g3, g4, g5, g6, g7, g8, g9, g10⟩ := byte_step x y
      have t1 := HT.out i g4
      have t2 := HT.out j g8
      have i1 : (i : Int) < 16 := by omega
      have j1 : (j : Int) < 16 := by omega
      have EZ : Hid (z = (Crc.byt x y).toNat) := Lib.hid g10
      have E3 := Lib.hid E2
      clear g10 E2
      unfold bV at c0
      go_wp2_with fail
      go_round
      case rel => exact ⟨k + 1, Crc.byt x y, by omega, by go_num, by rw [EZ.out], Lib.hid E3.out.symm⟩
      case measure => simp [intOf]; omega
    · obtain rfl : k = len := by omega
      have EX : Hid (x = Crc.run (BitVec.allOnes 32) l) := Lib.hid (by rw [E.out, List.take_of_length_le (by rw [Hlen.out]; exact Nat.le_refl _)])
      go_wp2_with fail
      go_ret
      exact ⟨ret_int (by unfold Crc.crc; rw [← EX.out]; exact not_u32 x), rfl⟩
/-- A slice of bytes that a call has made anew. -/
theorem le4_len (c : BitVec 32) : (Crc.le4 c).length = 4 := rfl
theorem bV_of {n : Nat} (h : n < 256) : bV (UInt8.ofNat n) = .int .u8 (n : Int) := by
  unfold bV
  rw [UInt8.toNat_ofNat_of_lt' (by simp [UInt8.size]; omega)]
theorem le4_cells (c : BitVec 32) : (Crc.le4 c).map bV = [.int .u8 ((c.toNat : Int) % 256), .int .u8 ((c.toNat : Int) / 256 % 256), .int .u8 ((c.toNat : Int) / 65536 % 256), .int .u8 ((c.toNat : Int) / 16777216)] := by
  have := c.isLt
  simp only [Crc.le4, List.map_cons, List.map_nil]
  rw [bV_of (by omega), bV_of (by omega), bV_of (by omega), bV_of (by omega)]
  rfl
set_option maxHeartbeats 1600000 in
theorem tail_any (a : Option Addr) (cap : Nat) (l : List UInt8) (w : World) (hb : BAt w.heap.size w a l) (ht : Turns w) :
    Calls Tryd.prog 89 #[.slice a l.length cap] w (Adds w.heap.size w (Crc.le4 (Crc.crc l))) := by
  have HS := Lib.hid (sum_any a cap l w hb ht)
  obtain ⟨c, hc⟩ : ∃ c, c = Crc.crc l := ⟨_, rfl⟩
  rw [← hc] at HS ⊢
  clear hb ht hc
  generalize l.length = len at *
  have hlt := c.isLt
  go_enter Tryd.func89, Tryd.ntmps89
  go_wp2_with fail
  refine HS.out.mono ?_
  rintro e w1 ⟨rfl, rfl⟩
  go_wp2_with fail
  go_ret
  refine ⟨_, rfl, ⟨by rw [le4_cells]; rfl, .inr ⟨w.heap.size, 4, _, rfl, Nat.le_refl _, heap_alloc_new _ _, Nat.le_refl _, by unfold maxLen; omega, rfl, ?_⟩⟩, (Below.refl _ _).alloc (Nat.le_refl _) _⟩
  rw [le4_cells]
  rfl
end Go.Proofs.YthdaibmminibhaaDoor
