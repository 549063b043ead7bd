/- The sum of bytes (CRC-32): its steps are linear; a burst of at most 32 bits is seen. Plain mathematics. -/
namespace Go.Proofs.YthdaibmminibhaaDoor.Crc
/-- The sum's step: its lowest bit moved out. -/
def stp (c : BitVec 32) : BitVec 32 := (c >>> 1) ^^^ (if c.getLsbD 0 then 3988292384#32 else 0#32)
def stpN : Nat → BitVec 32 → BitVec 32
  | 0, c => c
  | n + 1, c => stpN n (stp c)
def byt (c : BitVec 32) (x : UInt8) : BitVec 32 := stpN 8 (c ^^^ BitVec.ofNat 32 x.toNat)
def run (c : BitVec 32) (l : List UInt8) : BitVec 32 := l.foldl byt c
/-- The sum of bytes. -/
def crc (l : List UInt8) : BitVec 32 := ~~~ (run (BitVec.allOnes 32) l)

theorem stp_xor (a b : BitVec 32) : stp (a ^^^ b) = stp a ^^^ stp b := by
  unfold stp
  rw [BitVec.getLsbD_xor, BitVec.ushiftRight_xor_distrib]
  cases a.getLsbD 0 <;> cases b.getLsbD 0 <;> simp <;> (try ac_rfl)
  · rw [show a >>> 1 ^^^ 3988292384#32 ^^^ (b >>> 1 ^^^ 3988292384#32) = a >>> 1 ^^^ b >>> 1 ^^^ (3988292384#32 ^^^ 3988292384#32) from by ac_rfl]
    simp
theorem stp_zero : stp 0#32 = 0#32 := by decide
theorem stp_inj {a : BitVec 32} (h : stp a = 0#32) : a = 0#32 := by
  unfold stp at h
  have h31 := congrArg (fun x => x.getLsbD 31) h
  simp only [BitVec.getLsbD_xor, BitVec.getLsbD_ushiftRight] at h31
  have e : a.getLsbD 0 = false := by
    cases h0 : a.getLsbD 0
    · rfl
    · rw [h0] at h31
      simp at h31
  rw [e] at h
  simp only [Bool.false_eq_true, if_false, BitVec.xor_zero] at h
  apply BitVec.eq_of_getLsbD_eq
  intro i hi
  cases i with
  | zero => rw [e]; simp
  | succ i =>
    have := congrArg (fun x => x.getLsbD i) h
    simp only [BitVec.getLsbD_ushiftRight] at this
    rw [Nat.add_comm] at this
    rw [this]
    simp
theorem stpN_xor : ∀ (n : Nat) (a b : BitVec 32), stpN n (a ^^^ b) = stpN n a ^^^ stpN n b
  | 0, _, _ => rfl
  | n + 1, a, b => by rw [stpN, stp_xor, stpN_xor n]; rfl
theorem stpN_inj : ∀ (n : Nat) {a : BitVec 32}, stpN n a = 0#32 → a = 0#32
  | 0, _, h => h
  | n + 1, _, h => stp_inj (stpN_inj n h)
theorem stpN_zero : ∀ n, stpN n 0#32 = 0#32
  | 0 => rfl
  | n + 1 => by rw [stpN, stp_zero, stpN_zero n]
theorem stpN_add : ∀ (n m : Nat) (c : BitVec 32), stpN (n + m) c = stpN m (stpN n c)
  | 0, m, c => by rw [Nat.zero_add]; rfl
  | n + 1, m, c => by rw [Nat.succ_add, stpN, stpN_add n m]; rfl
/-- A number whose lowest bit is 0 is moved alone. -/
theorem stp_shl {d : BitVec 32} (h : d.getLsbD 31 = false) : stp (d <<< 1) = d := by
  unfold stp
  have e : (d <<< 1).getLsbD 0 = false := by simp
  rw [e]
  simp only [Bool.false_eq_true, if_false, BitVec.xor_zero]
  apply BitVec.eq_of_getLsbD_eq
  intro i hi
  rw [BitVec.getLsbD_ushiftRight, BitVec.getLsbD_shiftLeft]
  by_cases h31 : i = 31
  · subst h31; rw [h]; simp
  · have : 1 + i < 32 := by omega
    simp [this]

/-- Bit by bit. -/
def b1 (b : Bool) : BitVec 32 := if b then 1#32 else 0#32
def brun (c : BitVec 32) (bs : List Bool) : BitVec 32 := bs.foldl (fun c b => stp (c ^^^ b1 b)) c
def val : List Bool → BitVec 32
  | [] => 0#32
  | b :: bs => b1 b ^^^ (val bs <<< 1)
theorem val_bit : ∀ (bs : List Bool) (i : Nat), i < 32 → (val bs).getLsbD i = bs.getD i false
  | [], i, _ => by simp [val]
  | b :: bs, 0, _ => by
    unfold val b1
    rw [BitVec.getLsbD_xor]
    cases b <;> simp
  | b :: bs, i + 1, h => by
    unfold val b1
    rw [BitVec.getLsbD_xor, BitVec.getLsbD_shiftLeft]
    have := val_bit bs i (by omega)
    have e1 : (if b = true then 1#32 else 0#32).getLsbD (i + 1) = false := by
      cases b
      · simp
      · simp
    rw [e1]
    simp [h, this]
theorem brun_val : ∀ (bs : List Bool) (c : BitVec 32), bs.length ≤ 32 → brun c bs = stpN bs.length (c ^^^ val bs)
  | [], c, _ => by simp [brun, val, stpN]
  | b :: bs, c, h => by
    rw [List.length_cons] at h
    have ih := brun_val bs (stp (c ^^^ b1 b)) (by omega)
    show brun (stp (c ^^^ b1 b)) bs = _
    rw [ih, List.length_cons, stpN]
    congr 1
    have h31 : (val bs).getLsbD 31 = false := by
      rw [val_bit bs 31 (by omega)]
      simp [List.getD, List.getElem?_eq_none (show bs.length ≤ 31 by omega)]
    rw [show val (b :: bs) = b1 b ^^^ (val bs <<< 1) from rfl, ← BitVec.xor_assoc, stp_xor (c ^^^ b1 b), stp_shl h31]
theorem brun_app (c : BitVec 32) (a b : List Bool) : brun c (a ++ b) = brun (brun c a) b := by
  unfold brun; rw [List.foldl_append]
/-- A byte's bits, the lowest first. -/
def bits8 (x : UInt8) : List Bool := [x.toNat.testBit 0, x.toNat.testBit 1, x.toNat.testBit 2, x.toNat.testBit 3, x.toNat.testBit 4, x.toNat.testBit 5, x.toNat.testBit 6, x.toNat.testBit 7]
theorem bits8_val (x : UInt8) : val (bits8 x) = BitVec.ofNat 32 x.toNat := by
  apply BitVec.eq_of_getLsbD_eq
  intro i hi
  rw [val_bit _ i hi, BitVec.getLsbD_ofNat]
  have hx := x.toNat_lt
  by_cases h8 : i < 8
  · obtain rfl | rfl | rfl | rfl | rfl | rfl | rfl | rfl : i = 0 ∨ i = 1 ∨ i = 2 ∨ i = 3 ∨ i = 4 ∨ i = 5 ∨ i = 6 ∨ i = 7 := by omega
    all_goals simp [bits8]
  · have e1 : (bits8 x).getD i false = false := by
      simp [List.getD, List.getElem?_eq_none (show (bits8 x).length ≤ i by simp [bits8]; omega)]
    have e2 : x.toNat.testBit i = false := Nat.testBit_lt_two_pow (Nat.lt_of_lt_of_le hx (Nat.pow_le_pow_right (by omega) (show 8 ≤ i by omega)))
    rw [e1, e2]; simp
theorem byt_bits (c : BitVec 32) (x : UInt8) : byt c x = brun c (bits8 x) := by
  rw [brun_val _ _ (by simp [bits8]), bits8_val]; rfl
def bitsOf (l : List UInt8) : List Bool := l.flatMap bits8
theorem run_bits : ∀ (l : List UInt8) (c : BitVec 32), run c l = brun c (bitsOf l)
  | [], c => rfl
  | x :: l, c => by
    show run (byt c x) l = brun c (bits8 x ++ bitsOf l)
    rw [brun_app, run_bits l, byt_bits]
theorem bitsOf_len (l : List UInt8) : (bitsOf l).length = 8 * l.length := by
  induction l with
  | nil => rfl
  | cons x l ih =>
    show (bits8 x ++ bitsOf l).length = _
    rw [List.length_append, ih, List.length_cons]
    simp [bits8]; omega
theorem b1_xor (a b : Bool) : b1 (a ^^ b) = b1 a ^^^ b1 b := by cases a <;> cases b <;> decide
theorem brun_xor : ∀ (a b : List Bool) (c d : BitVec 32), a.length = b.length → brun (c ^^^ d) (List.zipWith (· ^^ ·) a b) = brun c a ^^^ brun d b
  | [], [], c, d, _ => rfl
  | x :: a, y :: b, c, d, h => by
    show brun (stp (c ^^^ d ^^^ b1 (x ^^ y))) (List.zipWith (· ^^ ·) a b) = brun (stp (c ^^^ b1 x)) a ^^^ brun (stp (d ^^^ b1 y)) b
    rw [← brun_xor a b _ _ (by simpa using h), ← stp_xor, b1_xor]
    congr 2
    ac_rfl
  | [], y :: b, _, _, h => by simp at h
  | x :: a, [], _, _, h => by simp at h
theorem brun_zeros : ∀ (n : Nat) (c : BitVec 32), brun c (List.replicate n false) = stpN n c
  | 0, c => rfl
  | n + 1, c => by
    show brun (stp (c ^^^ b1 false)) (List.replicate n false) = _
    rw [brun_zeros n, stpN]
    congr 2
    simp [b1]
/-- A burst of 32 bits at most is seen. -/
theorem burst (i j : Nat) (bs : List Bool) (hl : bs.length ≤ 32) (hb : true ∈ bs) : brun 0#32 (List.replicate i false ++ bs ++ List.replicate j false) ≠ 0#32 := by
  rw [brun_app, brun_app, brun_zeros i, stpN_zero, brun_zeros j, brun_val _ _ hl]
  intro h
  have h2 := stpN_inj _ (stpN_inj _ h)
  rw [BitVec.zero_xor] at h2
  obtain ⟨k, hk, e⟩ := List.getElem_of_mem hb
  have := val_bit bs k (by omega)
  rw [h2] at this
  simp [List.getD, hk, e] at this
/-- A sum's four bytes. -/
def le4 (c : BitVec 32) : List UInt8 := [UInt8.ofNat (c.toNat % 256), UInt8.ofNat (c.toNat / 256 % 256), UInt8.ofNat (c.toNat / 65536 % 256), UInt8.ofNat (c.toNat / 16777216)]
theorem val_bits (c : BitVec 32) : ∀ (bs : List Bool), (∀ i, i < 32 → bs.getD i false = c.getLsbD i) → val bs = c := fun bs h => by
  apply BitVec.eq_of_getLsbD_eq
  intro i hi
  rw [val_bit bs i hi, h i hi]
theorem le4_bits (c : BitVec 32) : bitsOf (le4 c) = (List.range 32).map fun i => c.getLsbD i := by
  have hc := c.isLt
  have t : ∀ n m : Nat, n < 256 → (UInt8.ofNat n).toNat.testBit m = n.testBit m := fun n m hn => by rw [UInt8.toNat_ofNat_of_lt' (by simp [UInt8.size]; omega)]
  have g : ∀ i, i < 32 → c.getLsbD i = c.toNat.testBit i := fun i hi => by simp [BitVec.getLsbD]
  have e0 : ∀ m, m < 8 → (c.toNat % 256).testBit m = c.toNat.testBit m := fun m hm => by
    rw [show 256 = 2 ^ 8 from rfl, Nat.testBit_mod_two_pow]; simp [hm]
  have e1 : ∀ m, m < 8 → (c.toNat / 256 % 256).testBit m = c.toNat.testBit (8 + m) := fun m hm => by
    rw [show 256 = 2 ^ 8 from rfl, Nat.testBit_mod_two_pow, ← Nat.shiftRight_eq_div_pow, Nat.testBit_shiftRight]; simp [hm]
  have e2 : ∀ m, m < 8 → (c.toNat / 65536 % 256).testBit m = c.toNat.testBit (16 + m) := fun m hm => by
    rw [show 256 = 2 ^ 8 from rfl, show 65536 = 2 ^ 16 from rfl, Nat.testBit_mod_two_pow, ← Nat.shiftRight_eq_div_pow, Nat.testBit_shiftRight]; simp [hm]
  have e3 : ∀ m, m < 8 → (c.toNat / 16777216).testBit m = c.toNat.testBit (24 + m) := fun m hm => by
    rw [show 16777216 = 2 ^ 24 from rfl, ← Nat.shiftRight_eq_div_pow, Nat.testBit_shiftRight]
  have h3 : c.toNat / 16777216 < 256 := by omega
  have hr : List.range 32 = [0,1,2,3,4,5,6,7,8,9,10,11,12,13,14,15,16,17,18,19,20,21,22,23,24,25,26,27,28,29,30,31] := rfl
  rw [hr]
  simp only [bitsOf, le4, List.flatMap_cons, List.flatMap_nil, bits8, List.map_cons, List.map_nil, List.cons_append, List.nil_append]
  rw [t _ 0 (by omega), t _ 1 (by omega), t _ 2 (by omega), t _ 3 (by omega), t _ 4 (by omega), t _ 5 (by omega), t _ 6 (by omega), t _ 7 (by omega)]
  rw [t _ 0 (by omega), t _ 1 (by omega), t _ 2 (by omega), t _ 3 (by omega), t _ 4 (by omega), t _ 5 (by omega), t _ 6 (by omega), t _ 7 (by omega)]
  rw [t _ 0 (by omega), t _ 1 (by omega), t _ 2 (by omega), t _ 3 (by omega), t _ 4 (by omega), t _ 5 (by omega), t _ 6 (by omega), t _ 7 (by omega)]
  rw [t _ 0 h3, t _ 1 h3, t _ 2 h3, t _ 3 h3, t _ 4 h3, t _ 5 h3, t _ 6 h3, t _ 7 h3]
  simp only [e0, e1, e2, e3, g, Nat.reduceLT, Nat.reduceAdd]
/-- What a right frame leaves. -/
theorem residue (l : List UInt8) : run (BitVec.allOnes 32) (l ++ le4 (crc l)) = stpN 32 (BitVec.allOnes 32) := by
  rw [run_bits]
  have e : bitsOf (l ++ le4 (crc l)) = bitsOf l ++ bitsOf (le4 (crc l)) := by unfold bitsOf; rw [List.flatMap_append]
  rw [e, brun_app, ← run_bits l, le4_bits, brun_val _ _ (by simp)]
  have hv : val ((List.range 32).map fun i => (crc l).getLsbD i) = crc l := val_bits _ _ fun i hi => by
    simp [List.getD, hi]
  rw [hv]
  simp only [List.length_map, List.length_range]
  unfold crc
  congr 1
  rw [← BitVec.xor_allOnes, ← BitVec.xor_assoc, BitVec.xor_self, BitVec.zero_xor]
/-- The table's word of four bits. -/
def tblW (i : Nat) : Nat := [0, 498536548, 997073096, 651767980, 1994146192, 1802195444, 1303535960, 1342533948, 3988292384, 4027552580, 3604390888, 3412177804, 2607071920, 2262029012, 2685067896, 3183342108].getD i 0
theorem tbl_ok : ∀ i : Fin 16, stpN 4 (BitVec.ofNat 32 i.val) = BitVec.ofNat 32 (tblW i.val) := by decide
theorem stp4_shl {d : BitVec 32} (h : ∀ i, 28 ≤ i → d.getLsbD i = false) : stpN 4 (d <<< 4) = d := by
  have e : d <<< 4 = (((d <<< 1) <<< 1) <<< 1) <<< 1 := by rw [← BitVec.shiftLeft_add, ← BitVec.shiftLeft_add, ← BitVec.shiftLeft_add]
  have g : ∀ (x : BitVec 32) (i : Nat), 0 < i → (x <<< 1).getLsbD i = (decide (i < 32) && x.getLsbD (i - 1)) := fun x i hi => by
    rw [BitVec.getLsbD_shiftLeft]
    have : ¬ i < 1 := by omega
    simp [this]
  rw [e]
  show stp (stp (stp (stp _))) = d
  rw [stp_shl, stp_shl, stp_shl, stp_shl]
  · exact h 31 (by omega)
  · rw [g _ _ (by omega), h 30 (by omega)]; simp
  · rw [g _ _ (by omega), g _ _ (by omega), h 29 (by omega)]; simp
  · rw [g _ _ (by omega), g _ _ (by omega), g _ _ (by omega), h 28 (by omega)]; simp
theorem stp4 (c : BitVec 32) : stpN 4 c = (c >>> 4) ^^^ BitVec.ofNat 32 (tblW (c.toNat % 16)) := by
  have e : c = ((c >>> 4) <<< 4) ^^^ BitVec.ofNat 32 (c.toNat % 16) := by
    apply BitVec.eq_of_getLsbD_eq
    intro i hi
    rw [BitVec.getLsbD_xor, BitVec.getLsbD_shiftLeft, BitVec.getLsbD_ushiftRight, BitVec.getLsbD_ofNat, show 16 = 2 ^ 4 from rfl, Nat.testBit_mod_two_pow]
    by_cases h4 : i < 4
    · simp [h4, hi, BitVec.getLsbD]
    · have : 4 + (i - 4) = i := by omega
      simp [h4, hi, this]
  have h := tbl_ok ⟨c.toNat % 16, by omega⟩
  simp only at h
  rw [show stpN 4 c = stpN 4 (((c >>> 4) <<< 4) ^^^ BitVec.ofNat 32 (c.toNat % 16)) from congrArg (stpN 4) e, stpN_xor, h, stp4_shl]
  intro i hi
  rw [BitVec.getLsbD_ushiftRight]
  exact BitVec.getLsbD_of_ge c (4 + i) (by omega)
end Go.Proofs.YthdaibmminibhaaDoor.Crc
