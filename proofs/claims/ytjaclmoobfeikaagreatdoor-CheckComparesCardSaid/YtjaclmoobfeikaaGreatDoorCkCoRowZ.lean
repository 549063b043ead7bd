/- What the cards of layer 12 share: their fifteen listed variables, and what these give. The law CheckCompares. The law CheckCompares, in the row's words. PROVED: the card of CheckCompares: at every input, in whatever memory that meets the row's listed variables (which the card ties to the program's text), the call returns true and its arguments read as they did. No condition of our own. -/
import Derived.Test.YtjaclmoobfeikaaGreatDoorZk18
import Derived.Test.YtjaclmoobfeikaaGreatDoorZk25
import Derived.Test.YtjaclmoobfeikaaGreatDoorZk43
import Derived.Deep.RegionHeld
import Derived.BigQuiet
import Derived.Test.YtjaclmoobfeikaaGreatDoorCards
import Derived.Test.YtjaclmoobfeikaaGreatDoorTie
import Derived.SevenTiedAt
namespace Go.Proofs.YtjaclmoobfeikaaGreatDoor
open Go.ChangeShapes Go.WideShapes Go.ChangeAt Go.RowKit Go.Joins Go.Deep

def tail12x : List (String × DataW Unit) := [("math/bits.deBruijn32tab", Rows.laid_math_bits_deBruijn32tab), ("math/bits.deBruijn64tab", Rows.laid_math_bits_deBruijn64tab), ("internal/strconv.uint64pow10", Rows.laid_internal_strconv_uint64pow10), ("strconv.ErrRange", Rows.laid_strconv_ErrRange), ("strconv.ErrSyntax", Rows.laid_strconv_ErrSyntax), ("stillroom/check.errTable", Rows.laid_stillroom_check_errTable), ("stillroom/check.errColumn", Rows.laid_stillroom_check_errColumn), ("stillroom/check.errType", Rows.laid_stillroom_check_errType), ("stillroom/check.errTwice", Rows.laid_stillroom_check_errTwice), ("stillroom/check.errGroup", Rows.laid_stillroom_check_errGroup), ("stillroom/lex.errNone", Rows.laid_stillroom_lex_errNone), ("stillroom/lex.errGreat", Rows.laid_stillroom_lex_errGreat), ("stillroom/lex.errMany", Rows.laid_stillroom_lex_errMany), ("stillroom/lex.errLong", Rows.laid_stillroom_lex_errLong)]
def laid12x : List (String × DataW Unit) := [("math/bits.deBruijn32tab", Rows.laid_math_bits_deBruijn32tab), ("math/bits.deBruijn64tab", Rows.laid_math_bits_deBruijn64tab), ("internal/strconv.uint64pow10", Rows.laid_internal_strconv_uint64pow10), ("errors.errorType", Rows.laid_errors_errorType), ("strconv.ErrRange", Rows.laid_strconv_ErrRange), ("strconv.ErrSyntax", Rows.laid_strconv_ErrSyntax), ("stillroom/check.errTable", Rows.laid_stillroom_check_errTable), ("stillroom/check.errColumn", Rows.laid_stillroom_check_errColumn), ("stillroom/check.errType", Rows.laid_stillroom_check_errType), ("stillroom/check.errTwice", Rows.laid_stillroom_check_errTwice), ("stillroom/check.errGroup", Rows.laid_stillroom_check_errGroup), ("stillroom/lex.errNone", Rows.laid_stillroom_lex_errNone), ("stillroom/lex.errGreat", Rows.laid_stillroom_lex_errGreat), ("stillroom/lex.errMany", Rows.laid_stillroom_lex_errMany), ("stillroom/lex.errLong", Rows.laid_stillroom_lex_errLong)]
theorem door_met12x (os : Os) (args : Array Value) : laidMetH Tryz.prog laid12x ((World.doorLaid Tryz.prog 400 os).forCall (fun _ _ => 0) ⟨#[], args, []⟩).memory :=
  laidMetH_of_parts3 (fuel := 8) (laidMet_of_run' 8 (by kernel_rfl) (by kernel_rfl)) (by kernel_rfl) (by kernel_rfl)
theorem split12x {W : World} (h : laidMetH Tryz.prog laid12x W) : laidMet Tryz.prog tail12x W ∧ handlesMet Tryz.prog [("errors.errorType", Rows.laid_errors_errorType)] W := h
set_option maxRecDepth 100000 in
theorem lxEnv12_of {W : World} (h : laidMetH Tryz.prog laid12x W) : ∃ n g m l, LxEnv W.heap.size n g m l W := by
  have h5 := (split12x h).1.tail.tail.tail
  obtain ⟨_, hr⟩ := senAt_of h5 (by kernel_rfl) (by kernel_rfl)
  have h6 := h5.tail.tail.tail.tail.tail.tail.tail
  obtain ⟨n, hn⟩ := senAt_of h6 (by kernel_rfl) (by kernel_rfl)
  obtain ⟨g, hg⟩ := senAt_of h6.tail (by kernel_rfl) (by kernel_rfl)
  obtain ⟨m, hm⟩ := senAt_of h6.tail.tail (by kernel_rfl) (by kernel_rfl)
  obtain ⟨l, hl⟩ := senAt_of h6.tail.tail.tail (by kernel_rfl) (by kernel_rfl)
  exact ⟨n, g, m, l, hn, hg, hm, hl, ⟨_, _, hr.var⟩, hr.lt, handle_of (split12x h).2 (by simp), Nat.le_refl _⟩
def five12 (a b c d e : Addr) : Nat → Addr := fun n => if n = 14 then a else if n = 15 then b else if n = 16 then c else if n = 23 then d else e
set_option maxRecDepth 100000 in
theorem ckEnv12_of {W : World} (h : laidMetH Tryz.prog laid12x W) : ∃ f, CkEnv W.heap.size f W := by
  have h5 := (split12x h).1.tail.tail.tail.tail.tail
  obtain ⟨a, ha⟩ := senAt_of h5 (by kernel_rfl) (by kernel_rfl)
  obtain ⟨b, hb⟩ := senAt_of h5.tail (by kernel_rfl) (by kernel_rfl)
  obtain ⟨c, hc⟩ := senAt_of h5.tail.tail (by kernel_rfl) (by kernel_rfl)
  obtain ⟨d, hd⟩ := senAt_of h5.tail.tail.tail (by kernel_rfl) (by kernel_rfl)
  obtain ⟨e, he⟩ := senAt_of h5.tail.tail.tail.tail (by kernel_rfl) (by kernel_rfl)
  exact ⟨five12 a b c d e, ha, hb, hc, hd, he, handle_of (split12x h).2 (by simp), Nat.le_refl _⟩
end Go.Proofs.YtjaclmoobfeikaaGreatDoor
namespace Go.Proofs.YtjaclmoobfeikaaGreatDoor
open Go.RowKit

def nm12 : Nat → ByteArray
  | 0 => ⟨#[97]⟩ | 1 => ⟨#[98]⟩ | 2 => ⟨#[99]⟩ | _ => ⟨#[100]⟩
def kd12 : Nat → Nat
  | 0 => 2 | 1 => 3 | 2 => 1 | _ => 2
def tx12 : Nat → ByteArray
  | 0 => ⟨#[53]⟩ | 1 => ⟨#[39, 120, 39]⟩ | 2 => ⟨#[84, 82, 85, 69]⟩ | 3 => ⟨#[78, 85, 76, 76]⟩ | _ => ⟨#[45, 49]⟩
def of12 : Nat → Nat
  | 0 => 2 | 1 => 3 | 2 => 1 | 3 => 0 | _ => 2
def cT1 (i k : Nat) : ByteArray := (⟨#[83, 69, 76, 69, 67, 84, 32, 97, 32, 70, 82, 79, 77, 32, 116, 32, 87, 72, 69, 82, 69, 32]⟩ : ByteArray) ++ nm12 i ++ ⟨#[32, 60, 61, 32]⟩ ++ tx12 k
def cT2 (i j : Nat) : ByteArray := (⟨#[83, 69, 76, 69, 67, 84, 32, 97, 32, 70, 82, 79, 77, 32, 116, 32, 87, 72, 69, 82, 69, 32]⟩ : ByteArray) ++ nm12 i ++ ⟨#[32, 61, 32]⟩ ++ nm12 j
def cT3 (i k : Nat) : ByteArray := (⟨#[83, 69, 76, 69, 67, 84, 32, 97, 32, 70, 82, 79, 77, 32, 116, 32, 87, 72, 69, 82, 69, 32, 78, 79, 84, 32]⟩ : ByteArray) ++ nm12 i ++ ⟨#[32, 73, 78, 32, 40, 78, 85, 76, 76, 44, 32]⟩ ++ tx12 k ++ ⟨#[41]⟩
def cT4 (k k1 : Nat) : ByteArray := (⟨#[83, 69, 76, 69, 67, 84, 32, 97, 32, 70, 82, 79, 77, 32, 116, 32, 87, 72, 69, 82, 69, 32]⟩ : ByteArray) ++ tx12 k ++ ⟨#[32, 60, 62, 32]⟩ ++ tx12 k1
/-- What the four texts are told: whether each is right, else ErrType. -/
def rt (b : Bool) : Nat := if b then 0 else 16
def gd (i k : Nat) : Bool := of12 k == 0 || of12 k == kd12 i
def gd2 (k k1 : Nat) : Bool := of12 k == 0 || of12 k1 == 0 || of12 k == of12 k1
theorem codes1 : ∀ i < 4, ∀ k < 5, (codeC (cT1 i k)).2 = rt (gd i k) ∧ (codeC (cT3 i k)).2 = rt (gd i k) := by decide +kernel
theorem codes2 : ∀ i < 4, ∀ j < 4, (codeC (cT2 i j)).2 = rt (kd12 i == kd12 j) := by decide +kernel
theorem codes4 : ∀ k < 5, (codeC (cT4 k ((k + 1) % 5))).2 = rt (gd2 k ((k + 1) % 5)) := by decide +kernel
theorem tabs_kept {W W' : World} {b : Option Addr} {l : List Tb} (h : TabsAt W.heap.size W b l) (hg : W.grownBy W' none) : TabsAt W'.heap.size W' b l := by
  have h := h.keep hg (by simp)
  exact ⟨h.1, fun t ht => (h.2.1 t ht).mono hg.size, h.2.2.imp id fun ⟨b, off, e, hlt, hc⟩ => ⟨b, off, e, Nat.lt_of_lt_of_le hlt hg.size, hc⟩⟩
theorem nm12_few : ∀ i, (nm12 i).size ≤ 9
  | 0 => by decide
  | 1 => by decide
  | 2 => by decide
  | _ + 3 => by show (1 : Nat) ≤ 9; decide
theorem tx12_few : ∀ i, (tx12 i).size ≤ 9
  | 0 => by decide
  | 1 => by decide
  | 2 => by decide
  | 3 => by decide
  | _ + 4 => by show (2 : Nat) ≤ 9; decide
/-- The law's four arrays. -/
def Arr12 (b : Nat) (W : World) : Prop := (∀ i, i < 4 → W.cell? ⟨b, i, none⟩ = some (.string (nm12 i))) ∧ (∀ i, i < 4 → W.cell? ⟨b + 1, i, none⟩ = some (.int .i64 (kd12 i : Nat))) ∧ (∀ i, i < 5 → W.cell? ⟨b + 1 + 1, i, none⟩ = some (.string (tx12 i))) ∧ (∀ i, i < 5 → W.cell? ⟨b + 1 + 1 + 1, i, none⟩ = some (.int .i64 (of12 i : Nat)))
theorem Arr12.keep {b : Nat} {W W' : World} (h : Arr12 b W) (hG : W.grownBy W' none) : Arr12 b W' := ⟨fun i hi => hG.cell (h.1 i hi) (by simp), fun i hi => hG.cell (h.2.1 i hi) (by simp), fun i hi => hG.cell (h.2.2.1 i hi) (by simp), fun i hi => hG.cell (h.2.2.2 i hi) (by simp)⟩
theorem wrap12 : ∀ k : Nat, k < 5 → (IntKind.u8.wrap ((k : Int) + 1)).tmod 5 = ((k + 1) % 5 : Nat) := by decide
theorem rt_or {g : Bool} {r : Nat} (h : r = rt g) : (g = true ∧ (r : Int) = 0) ∨ (g = false ∧ (r : Int) = 16) := by
  subst h
  cases g with
  | true => exact .inl ⟨rfl, rfl⟩
  | false => exact .inr ⟨rfl, rfl⟩
theorem ix4_0 (a : Int) (b : Bool) (c : Int) (d : Bool) (e : Int) (f : Bool) (g : Int) (h : Bool) (w : World) : (Instr.index 56 (.agg #[.int .i64 a, .bool b, .int .i64 c, .bool d, .int .i64 e, .bool f, .int .i64 g, .bool h]) (.int .i64 0)).run Tryz.prog w = .ok (.agg #[.int .i64 a, .bool b]) w := by kernel_rfl
theorem ix4_1 (a : Int) (b : Bool) (c : Int) (d : Bool) (e : Int) (f : Bool) (g : Int) (h : Bool) (w : World) : (Instr.index 56 (.agg #[.int .i64 a, .bool b, .int .i64 c, .bool d, .int .i64 e, .bool f, .int .i64 g, .bool h]) (.int .i64 1)).run Tryz.prog w = .ok (.agg #[.int .i64 c, .bool d]) w := by kernel_rfl
theorem ix4_2 (a : Int) (b : Bool) (c : Int) (d : Bool) (e : Int) (f : Bool) (g : Int) (h : Bool) (w : World) : (Instr.index 56 (.agg #[.int .i64 a, .bool b, .int .i64 c, .bool d, .int .i64 e, .bool f, .int .i64 g, .bool h]) (.int .i64 2)).run Tryz.prog w = .ok (.agg #[.int .i64 e, .bool f]) w := by kernel_rfl
theorem ix4_3 (a : Int) (b : Bool) (c : Int) (d : Bool) (e : Int) (f : Bool) (g : Int) (h : Bool) (w : World) : (Instr.index 56 (.agg #[.int .i64 a, .bool b, .int .i64 c, .bool d, .int .i64 e, .bool f, .int .i64 g, .bool h]) (.int .i64 3)).run Tryz.prog w = .ok (.agg #[.int .i64 g, .bool h]) w := by kernel_rfl
/-- What checked answers at a text whose number is known. -/
def CkR (w : World) (T : ByteArray) (r : Nat) : Prop := ∀ (a : Ptr) (b : Option Addr) (W : World), w.grownBy W none → TabsAt W.heap.size W b [catT a] → Calls Tryz.prog 8 #[.string T, .slice b 1 1] W fun e w' => W.grownBy w' none ∧ ∃ (y : Qm) (p : Nat), e = .returned (.tuple #[.agg y.c, .int .i64 p, .int .i64 r])
theorem ckR_of {G G2 : Nat} {n g m l : Addr} {f : Nat → Addr} {w : World} (hE : LxEnv G n g m l w) (hF : CkEnv G2 f w) {T : ByteArray} {r : Nat} (h : (codeC T).2 = r) : CkR w T r := fun a b W hW hT =>
  (lawC_any G G2 n g m l f T a b W hT (hE.keep hW) (hF.keep hW)).mono fun e w' hh => ⟨hh.1, hh.2.elim fun y hy => ⟨y, (codeC T).1, by rw [hy.1, h]⟩⟩
set_option maxRecDepth 100000 in
set_option maxHeartbeats 12800000 in
theorem checkCompares_any (G G2 : Nat) (n g m l : Addr) (f : Nat → Addr) (a b c : Nat) (w : World) (hE : LxEnv G n g m l w) (hF : CkEnv G2 f w) : Calls Tryz.prog 5 #[.int .u8 a, .int .u8 b, .int .u8 c] w fun e w' => e = .returned (.bool true) ∧ w.grownBy w' none := by
  obtain ⟨i, hi, hi4⟩ : ∃ i : Nat, (a : Int) % 4 = i ∧ i < 4 := ⟨a % 4, by omega, by omega⟩
  obtain ⟨j, hj, hj4⟩ : ∃ i : Nat, (b : Int) % 4 = i ∧ i < 4 := ⟨b % 4, by omega, by omega⟩
  obtain ⟨k, hk, hk5⟩ : ∃ i : Nat, (c : Int) % 5 = i ∧ i < 5 := ⟨c % 5, by omega, by omega⟩
  obtain ⟨k1, hk1⟩ : ∃ k1, k1 = (k + 1) % 5 := ⟨_, rfl⟩
  have hk15 : k1 < 5 := by omega
  have HA := Lib.hid (fun W (hW : w.grownBy W none) => awake12_any G G2 n g m l f W (hE.keep hW) (hF.keep hW))
  have HT := Lib.hid catalogC_any
  have H1 : Hid (CkR w (cT1 i k) (rt (gd i k))) := Lib.hid (ckR_of hE hF (codes1 i hi4 k hk5).1)
  have H2 : Hid (CkR w (cT2 i j) (rt (kd12 i == kd12 j))) := Lib.hid (ckR_of hE hF (codes2 i hi4 j hj4))
  have H3 : Hid (CkR w (cT3 i k) (rt (gd i k))) := Lib.hid (ckR_of hE hF (codes1 i hi4 k hk5).2)
  have H4 : Hid (CkR w (cT4 k k1) (rt (gd2 k k1))) := Lib.hid (ckR_of hE hF (by rw [hk1]; exact codes4 k hk5))
  obtain ⟨g1, hg1⟩ : ∃ x, x = gd i k := ⟨_, rfl⟩
  obtain ⟨g2, hg2⟩ : ∃ x, x = (kd12 i == kd12 j) := ⟨_, rfl⟩
  obtain ⟨g4, hg4⟩ : ∃ x, x = gd2 k k1 := ⟨_, rfl⟩
  rw [← hg1] at H1 H3
  rw [← hg2] at H2
  rw [← hg4] at H4
  obtain ⟨r1, hr1⟩ : ∃ x, x = rt g1 := ⟨_, rfl⟩
  obtain ⟨r2, hr2⟩ : ∃ x, x = rt g2 := ⟨_, rfl⟩
  obtain ⟨r4, hr4⟩ : ∃ x, x = rt g4 := ⟨_, rfl⟩
  rw [← hr1] at H1 H3
  rw [← hr2] at H2
  rw [← hr4] at H4
  have HG := Lib.hid (And.intro hg1 (And.intro hg2 (And.intro hg4 (And.intro hr1 (And.intro hr2 hr4)))))
  have HK1 := Lib.hid hk1
  clear hE hF hg1 hg2 hg4 hr1 hr2 hr4 hk1
  go_enter Tryz.func5, Tryz.ntmps5
  go_wp2_with fail
  refine (HA.out _ (grown_reflX _ _)).mono ?_
  rintro e w1 ⟨rfl, hg⟩
  have K1 := Lib.hid hg
  clear hg HA
  go_upto_region 6 with fail
  rw [hi, hj, hk]
  have gA := World.grownBy_alloc w1 (.cells #[.string ⟨#[97]⟩, .string ⟨#[98]⟩, .string ⟨#[99]⟩, .string ⟨#[100]⟩] 50) none
  have gB := World.grownBy_alloc (w1.alloc (.cells #[.string ⟨#[97]⟩, .string ⟨#[98]⟩, .string ⟨#[99]⟩, .string ⟨#[100]⟩] 50)) (.cells #[.int .i64 2, .int .i64 3, .int .i64 1, .int .i64 2] 51) none
  have gC := World.grownBy_alloc ((w1.alloc (.cells #[.string ⟨#[97]⟩, .string ⟨#[98]⟩, .string ⟨#[99]⟩, .string ⟨#[100]⟩] 50)).alloc (.cells #[.int .i64 2, .int .i64 3, .int .i64 1, .int .i64 2] 51)) (.cells #[.string ⟨#[53]⟩, .string ⟨#[39, 120, 39]⟩, .string ⟨#[84, 82, 85, 69]⟩, .string ⟨#[78, 85, 76, 76]⟩, .string ⟨#[45, 49]⟩] 52) none
  have gD := World.grownBy_alloc (((w1.alloc (.cells #[.string ⟨#[97]⟩, .string ⟨#[98]⟩, .string ⟨#[99]⟩, .string ⟨#[100]⟩] 50)).alloc (.cells #[.int .i64 2, .int .i64 3, .int .i64 1, .int .i64 2] 51)).alloc (.cells #[.string ⟨#[53]⟩, .string ⟨#[39, 120, 39]⟩, .string ⟨#[84, 82, 85, 69]⟩, .string ⟨#[78, 85, 76, 76]⟩, .string ⟨#[45, 49]⟩] 52)) (.cells #[.int .i64 2, .int .i64 3, .int .i64 1, .int .i64 0, .int .i64 2] 53) none
  have bA := blk_grown (gB.trans (gC.trans gD)) (heap_alloc_new w1 (.cells #[.string ⟨#[97]⟩, .string ⟨#[98]⟩, .string ⟨#[99]⟩, .string ⟨#[100]⟩] 50))
  have bB := blk_grown (gC.trans gD) (heap_alloc_new (w1.alloc (.cells #[.string ⟨#[97]⟩, .string ⟨#[98]⟩, .string ⟨#[99]⟩, .string ⟨#[100]⟩] 50)) (.cells #[.int .i64 2, .int .i64 3, .int .i64 1, .int .i64 2] 51))
  have bC := blk_grown gD (heap_alloc_new ((w1.alloc (.cells #[.string ⟨#[97]⟩, .string ⟨#[98]⟩, .string ⟨#[99]⟩, .string ⟨#[100]⟩] 50)).alloc (.cells #[.int .i64 2, .int .i64 3, .int .i64 1, .int .i64 2] 51)) (.cells #[.string ⟨#[53]⟩, .string ⟨#[39, 120, 39]⟩, .string ⟨#[84, 82, 85, 69]⟩, .string ⟨#[78, 85, 76, 76]⟩, .string ⟨#[45, 49]⟩] 52))
  have bD := heap_alloc_new (((w1.alloc (.cells #[.string ⟨#[97]⟩, .string ⟨#[98]⟩, .string ⟨#[99]⟩, .string ⟨#[100]⟩] 50)).alloc (.cells #[.int .i64 2, .int .i64 3, .int .i64 1, .int .i64 2] 51)).alloc (.cells #[.string ⟨#[53]⟩, .string ⟨#[39, 120, 39]⟩, .string ⟨#[84, 82, 85, 69]⟩, .string ⟨#[78, 85, 76, 76]⟩, .string ⟨#[45, 49]⟩] 52)) (.cells #[.int .i64 2, .int .i64 3, .int .i64 1, .int .i64 0, .int .i64 2] 53)
  rw [show (w1.alloc (.cells #[.string ⟨#[97]⟩, .string ⟨#[98]⟩, .string ⟨#[99]⟩, .string ⟨#[100]⟩] 50)).heap.size = w1.heap.size + 1 by simp] at bB
  rw [show ((w1.alloc (.cells #[.string ⟨#[97]⟩, .string ⟨#[98]⟩, .string ⟨#[99]⟩, .string ⟨#[100]⟩] 50)).alloc (.cells #[.int .i64 2, .int .i64 3, .int .i64 1, .int .i64 2] 51)).heap.size = w1.heap.size + 1 + 1 by simp] at bC
  rw [show (((w1.alloc (.cells #[.string ⟨#[97]⟩, .string ⟨#[98]⟩, .string ⟨#[99]⟩, .string ⟨#[100]⟩] 50)).alloc (.cells #[.int .i64 2, .int .i64 3, .int .i64 1, .int .i64 2] 51)).alloc (.cells #[.string ⟨#[53]⟩, .string ⟨#[39, 120, 39]⟩, .string ⟨#[84, 82, 85, 69]⟩, .string ⟨#[78, 85, 76, 76]⟩, .string ⟨#[45, 49]⟩] 52)).heap.size = w1.heap.size + 1 + 1 + 1 by simp] at bD
  have D5 := K1.out.trans (gA.trans (gB.trans (gC.trans gD)))
  obtain ⟨W5, hW5⟩ : ∃ W, W = (((w1.alloc (.cells #[.string ⟨#[97]⟩, .string ⟨#[98]⟩, .string ⟨#[99]⟩, .string ⟨#[100]⟩] 50)).alloc (.cells #[.int .i64 2, .int .i64 3, .int .i64 1, .int .i64 2] 51)).alloc (.cells #[.string ⟨#[53]⟩, .string ⟨#[39, 120, 39]⟩, .string ⟨#[84, 82, 85, 69]⟩, .string ⟨#[78, 85, 76, 76]⟩, .string ⟨#[45, 49]⟩] 52)).alloc (.cells #[.int .i64 2, .int .i64 3, .int .i64 1, .int .i64 0, .int .i64 2] 53) := ⟨_, rfl⟩
  rw [← hW5] at bA bB bC bD D5 ⊢
  clear hW5 gA gB gC gD
  have D5 := Lib.hid D5
  have C1 : Hid (∀ i, i < 4 → W5.cell? ⟨w1.heap.size, i, none⟩ = some (.string (nm12 i))) := Lib.hid fun i hi => by
    rw [cell_of_row _ _ _ _ _ _ bA]
    match i, hi with
    | 0, _ => rfl
    | 1, _ => rfl
    | 2, _ => rfl
    | 3, _ => rfl
  have C2 : Hid (∀ i, i < 4 → W5.cell? ⟨w1.heap.size + 1, i, none⟩ = some (.int .i64 (kd12 i : Nat))) := Lib.hid fun i hi => by
    rw [cell_of_row _ _ _ _ _ _ bB]
    match i, hi with
    | 0, _ => rfl
    | 1, _ => rfl
    | 2, _ => rfl
    | 3, _ => rfl
  have C3 : Hid (∀ i, i < 5 → W5.cell? ⟨w1.heap.size + 1 + 1, i, none⟩ = some (.string (tx12 i))) := Lib.hid fun i hi => by
    rw [cell_of_row _ _ _ _ _ _ bC]
    match i, hi with
    | 0, _ => rfl
    | 1, _ => rfl
    | 2, _ => rfl
    | 3, _ => rfl
    | 4, _ => rfl
  have C4 : Hid (∀ i, i < 5 → W5.cell? ⟨w1.heap.size + 1 + 1 + 1, i, none⟩ = some (.int .i64 (of12 i : Nat))) := Lib.hid fun i hi => by
    rw [cell_of_row _ _ _ _ _ _ bD]
    match i, hi with
    | 0, _ => rfl
    | 1, _ => rfl
    | 2, _ => rfl
    | 3, _ => rfl
    | 4, _ => rfl
  have C : Hid (Arr12 w1.heap.size W5) := Lib.hid ⟨C1.out, C2.out, C3.out, C4.out⟩
  clear bA bB bC bD hi hj hk C1 C2 C3 C4
  have hi4' : (i : Int) < 4 := by omega
  have si := nm12_few i
  have sj := nm12_few j
  have sk := tx12_few k
  have sk1 := tx12_few k1
  have hj4' : (j : Int) < 4 := by omega
  have hk5' : (k : Int) < 5 := by omega
  have hk15' : (k1 : Int) < 5 := by omega
  have hk1' : (IntKind.u8.wrap ((k : Int) + 1)).tmod 5 = (k1 : Int) := by rw [HK1.out]; exact wrap12 k hk5
  unfold CkR cT1 at H1
  unfold CkR cT2 at H2
  unfold CkR cT3 at H3
  unfold CkR cT4 at H4
  go_cut [14, 15, 16] from 42 (fun _ _ x wx => x = .int .i64 (r1 : Nat) ∧ Hid (W5.grownBy wx none))
  case first => as_aux_lemma =>
    refine wp_region_held_drew (S := (fun W => Hid (W5.grownBy W none))) (by kernel_rfl) (Lib.hid (grown_drewT (grown_reflX _ _))) (fun hHeld => ?_)
    refine wpAnyH_take (i := 0) (v := ?vg6_0z1) rfl (by kernel_rfl) (by kernel_rfl) (by kernel_rfl) (fun _ _ _ h => h) (Or.inl ⟨by rfl, ?yg6_0z1⟩) (by assumption) ?rg6_0z1
    case yg6_0z1 => (intro w hSw; (try dsimp only at hSw); go_simp; first | (rw [if_neg (by omega)]) | (with_reducible rfl) | skip)
    simp only [Act.put, List.getElem_toArray, List.getElem_cons_zero, List.size_toArray, List.length_cons, List.length_nil, Nat.reduceAdd, Array.replicate, List.replicate, List.setIfInBounds_toArray, List.set_cons_zero, List.set_cons_succ]
    refine wpAnyH_take (i := 1) (v := ?vg6_1z2) rfl (by kernel_rfl) (by kernel_rfl) (by kernel_rfl) (fun _ _ _ h => h) (Or.inl ⟨by rfl, ?yg6_1z2⟩) (by assumption) ?rg6_1z2
    case yg6_1z2 => (intro w hSw; (try dsimp only at hSw); go_simp; first | (rw [if_neg (by omega)]) | (with_reducible rfl) | skip)
    simp only [Act.put, List.getElem_toArray, List.getElem_cons_succ, List.getElem_cons_zero, List.setIfInBounds_toArray, List.set_cons_zero, List.set_cons_succ]
    refine wpAnyH_take (i := 2) (v := ?vg6_2z3) rfl (by kernel_rfl) (by kernel_rfl) (by kernel_rfl) (fun _ _ _ h => h) (Or.inl ⟨by rfl, ?yg6_2z3⟩) (by assumption) ?rg6_2z3
    case yg6_2z3 => (intro w hSw; have h0 := hSw.out.cell (C.out.1 i hi4) (by simp); clear hSw; go_simp; first | (rw [if_neg (by omega)]) | (with_reducible rfl) | skip)
    simp only [Act.put, List.getElem_toArray, List.getElem_cons_succ, List.getElem_cons_zero, List.setIfInBounds_toArray, List.set_cons_zero, List.set_cons_succ]
    refine wpAnyH_take (i := 3) (v := ?vg6_3z4) rfl (by kernel_rfl) (by kernel_rfl) (by kernel_rfl) (fun _ _ _ h => h) (Or.inl ⟨by rfl, ?yg6_3z4⟩) (by assumption) ?rg6_3z4
    case yg6_3z4 => (intro w hSw; (try dsimp only at hSw); go_simp; first | (rw [if_neg (by omega)]) | (with_reducible rfl) | skip)
    simp only [Act.put, List.getElem_toArray, List.getElem_cons_succ, List.getElem_cons_zero, List.setIfInBounds_toArray, List.set_cons_zero, List.set_cons_succ]
    refine wpAnyH_take (i := 4) (v := ?vg6_4z5) rfl (by kernel_rfl) (by kernel_rfl) (by kernel_rfl) (fun _ _ _ h => h) (Or.inl ⟨by rfl, ?yg6_4z5⟩) (by assumption) ?rg6_4z5
    case yg6_4z5 => (intro w hSw; (try dsimp only at hSw); go_simp; first | (rw [if_neg (by omega)]) | (with_reducible rfl) | skip)
    simp only [Act.put, List.getElem_toArray, List.getElem_cons_succ, List.getElem_cons_zero, List.setIfInBounds_toArray, List.set_cons_zero, List.set_cons_succ]
    refine wpAnyH_take (i := 5) (v := ?vg6_5z6) rfl (by kernel_rfl) (by kernel_rfl) (by kernel_rfl) (fun _ _ _ h => h) (Or.inl ⟨by rfl, ?yg6_5z6⟩) (by assumption) ?rg6_5z6
    case yg6_5z6 => (intro w hSw; (try dsimp only at hSw); go_simp; first | (rw [if_neg (by omega)]) | (with_reducible rfl) | skip)
    simp only [Act.put, List.getElem_toArray, List.getElem_cons_succ, List.getElem_cons_zero, List.setIfInBounds_toArray, List.set_cons_zero, List.set_cons_succ]
    refine wpAnyH_take (i := 6) (v := ?vg6_6z7) rfl (by kernel_rfl) (by kernel_rfl) (by kernel_rfl) (fun _ _ _ h => h) (Or.inl ⟨by rfl, ?yg6_6z7⟩) (by assumption) ?rg6_6z7
    case yg6_6z7 => (intro w hSw; (try dsimp only at hSw); go_simp; first | (rw [if_neg (by omega)]) | (with_reducible rfl) | skip)
    simp only [Act.put, List.getElem_toArray, List.getElem_cons_succ, List.getElem_cons_zero, List.setIfInBounds_toArray, List.set_cons_zero, List.set_cons_succ]
    refine wpAnyH_take (i := 7) (v := ?vg6_7z8) rfl (by kernel_rfl) (by kernel_rfl) (by kernel_rfl) (fun _ _ _ h => h) (Or.inl ⟨by rfl, ?yg6_7z8⟩) (by assumption) ?rg6_7z8
    case yg6_7z8 => (intro w hSw; have h0 := hSw.out.cell (C.out.2.2.1 k hk5) (by simp); clear hSw; go_simp; first | (rw [if_neg (by omega)]) | (with_reducible rfl) | skip)
    simp only [Act.put, List.getElem_toArray, List.getElem_cons_succ, List.getElem_cons_zero, List.setIfInBounds_toArray, List.set_cons_zero, List.set_cons_succ]
    refine wpAnyH_take (i := 8) (v := ?vg6_8z9) rfl (by kernel_rfl) (by kernel_rfl) (by kernel_rfl) (fun _ _ _ h => h) (Or.inl ⟨by rfl, ?yg6_8z9⟩) (by assumption) ?rg6_8z9
    case yg6_8z9 => (intro w hSw; (try dsimp only at hSw); go_simp; first | (rw [if_neg (by omega)]) | (with_reducible rfl) | skip)
    simp only [Act.put, List.getElem_toArray, List.getElem_cons_succ, List.getElem_cons_zero, List.setIfInBounds_toArray, List.set_cons_zero, List.set_cons_succ]
    refine wpAnyH_ready (rs := [9, 15]) (by kernel_rfl) (by simp) ?_
    refine (AllReadyH.cons rfl (fun K' hK => ?_) (AllReadyH.cons rfl (fun K' hK => ?_) AllReadyH.nil))
    · go_simp
      go_at_call 13
      refine (HT.out _).mono ?_
      rintro e u ⟨⟨a0, b0, rfl, ht⟩, hg⟩
      have GU := Lib.hid hg
      have ZU : Hid (W5.grownBy u none) := Lib.hid ((grown_drewT (grown_reflX _ _)).trans hg)
      have HT0 := Lib.hid ht
      clear ht hg
      refine hK.out _ _ ZU (fun hHeld => ?_)
      clear hK K'
      simp only [List.setIfInBounds_toArray, List.set_cons_zero, List.set_cons_succ]
      refine wpAnyH_ready (rs := [10, 15]) (by kernel_rfl) (by simp) ?_
      refine (AllReadyH.cons rfl (fun K' hK => ?_) (AllReadyH.cons rfl (fun K' hK => ?_) AllReadyH.nil))
      · go_simp
        go_at_call 8
        refine (H1.out a0 b0 _ (D5.out.trans ZU.out) HT0.out).mono ?_
        rintro e v ⟨hg, y, p, rfl⟩
        have GV := Lib.hid hg
        have ZV : Hid (W5.grownBy v none) := Lib.hid (ZU.out.trans hg)
        clear hg
        refine hK.out _ _ ZV (fun hHeld => ?_)
        clear hK K'
        simp only [List.setIfInBounds_toArray, List.set_cons_zero, List.set_cons_succ]
        refine wpAnyH_take (i := 11) (v := ?vg6_11z10) rfl (by kernel_rfl) (by kernel_rfl) (by kernel_rfl) (fun _ _ _ h => h) (Or.inl ⟨by rfl, ?yg6_11z10⟩) (by assumption) ?rg6_11z10
        case yg6_11z10 => (intro w hSw; (try dsimp only at hSw); go_simp; first | (rw [if_neg (by omega)]) | (with_reducible rfl) | skip)
        simp only [Act.put, List.getElem_toArray, List.getElem_cons_succ, List.getElem_cons_zero, List.setIfInBounds_toArray, List.set_cons_zero, List.set_cons_succ]
        refine wpAnyH_take (i := 12) (v := ?vg6_12z11) rfl (by kernel_rfl) (by kernel_rfl) (by kernel_rfl) (fun _ _ _ h => h) (Or.inl ⟨by rfl, ?yg6_12z11⟩) (by assumption) ?rg6_12z11
        case yg6_12z11 => (intro w hSw; (try dsimp only at hSw); go_simp; first | (rw [if_neg (by omega)]) | (with_reducible rfl) | skip)
        simp only [Act.put, List.getElem_toArray, List.getElem_cons_succ, List.getElem_cons_zero, List.setIfInBounds_toArray, List.set_cons_zero, List.set_cons_succ]
        refine wpAnyH_take (i := 13) (v := ?vg6_13z12) rfl (by kernel_rfl) (by kernel_rfl) (by kernel_rfl) (fun _ _ _ h => h) (Or.inl ⟨by rfl, ?yg6_13z12⟩) (by assumption) ?rg6_13z12
        case yg6_13z12 => (intro w hSw; (try dsimp only at hSw); go_simp; first | (rw [if_neg (by omega)]) | (with_reducible rfl) | skip)
        simp only [Act.put, List.getElem_toArray, List.getElem_cons_succ, List.getElem_cons_zero, List.setIfInBounds_toArray, List.set_cons_zero, List.set_cons_succ]
        refine wpAnyH_take (i := 14) (v := ?vg6_14z13) rfl (by kernel_rfl) (by kernel_rfl) (by kernel_rfl) (fun _ _ _ h => h) (Or.inl ⟨by rfl, ?yg6_14z13⟩) (by assumption) ?rg6_14z13
        case yg6_14z13 => (intro w hSw; (try dsimp only at hSw); go_simp; first | (rw [if_neg (by omega)]) | (with_reducible rfl) | skip)
        simp only [Act.put, List.getElem_toArray, List.getElem_cons_succ, List.getElem_cons_zero, List.setIfInBounds_toArray, List.set_cons_zero, List.set_cons_succ]
        refine wpAnyH_ready (rs := [15]) (by kernel_rfl) (by simp) ?_
        refine AllReadyH.cons rfl (fun K' hK => ?_) AllReadyH.nil
        go_simp
        skip
        refine hK.out _ _ (Lib.hid (ZV.out.trans (World.grownBy_alloc _ _ none))) (fun hHeld => ?_)
        clear hK K'
        simp only [List.setIfInBounds_toArray, List.set_cons_zero, List.set_cons_succ]
        refine wpAnyH_ready (rs := [16]) (by kernel_rfl) (by simp) ?_
        refine AllReadyH.cons rfl (fun K' hK => ?_) AllReadyH.nil
        refine wp_store_row 36 (.tmp 14) (.tmp 54) rfl _ y.c (by rfl) (by rfl) 36 (Qm.z 0).c (heap_alloc_new _ _) (by rw [Qm.c_size]; exact query_size) (by rw [Qm.c_size, Qm.c_size]) (Qm.c_all _) ?_
        refine hK.out _ _ (Lib.hid (grown_thenX (ZV.out.trans (World.grownBy_alloc _ _ none)) (grown_setRow _ _ _) (fun j e => by cases e; exact ZV.out.size))) (fun hHeld => ?_)
        clear hK K'
        simp only [Act.put, List.getElem_toArray, List.getElem_cons_succ, List.getElem_cons_zero, List.setIfInBounds_toArray, List.set_cons_zero, List.set_cons_succ]
        refine wpAnyH_take (i := 17) (v := ?vg6_17z14) rfl (by kernel_rfl) (by kernel_rfl) (by kernel_rfl) (fun _ _ _ h => h) (Or.inl ⟨by rfl, ?yg6_17z14⟩) (by assumption) ?rg6_17z14
        case yg6_17z14 => (intro w hSw; (try dsimp only at hSw); go_simp; first | (rw [if_neg (by omega)]) | (with_reducible rfl) | skip)
        simp only [Act.put, List.getElem_toArray, List.getElem_cons_succ, List.getElem_cons_zero, List.setIfInBounds_toArray, List.set_cons_zero, List.set_cons_succ]
        refine wpAnyH_take (i := 18) (v := ?vg6_18z15) rfl (by kernel_rfl) (by kernel_rfl) (by kernel_rfl) (fun _ _ _ h => h) (Or.inl ⟨by rfl, ?yg6_18z15⟩) (by assumption) ?rg6_18z15
        case yg6_18z15 => (intro w hSw; (try dsimp only at hSw); go_simp; first | (rw [if_neg (by omega)]) | (with_reducible rfl) | skip)
        simp only [Act.put, List.getElem_toArray, List.getElem_cons_succ, List.getElem_cons_zero, List.setIfInBounds_toArray, List.set_cons_zero, List.set_cons_succ]
        refine wpAnyH_done (by kernel_rfl) ?_ _
        go_wp2_with fail
        go_meet
        exact ⟨rfl, Lib.hid (grown_thenX (ZV.out.trans (World.grownBy_alloc _ _ none)) (grown_setRow _ _ _) (fun j e => by cases e; first | exact Nat.le_refl _ | exact ZU.out.size | exact ZV.out.size))⟩
      · go_simp
        skip
        refine hK.out _ _ (Lib.hid (ZU.out.trans (World.grownBy_alloc _ _ none))) (fun hHeld => ?_)
        clear hK K'
        simp only [List.setIfInBounds_toArray, List.set_cons_zero, List.set_cons_succ]
        refine wpAnyH_ready (rs := [10]) (by kernel_rfl) (by simp) ?_
        refine AllReadyH.cons rfl (fun K' hK => ?_) AllReadyH.nil
        go_simp
        go_at_call 8
        refine (H1.out a0 b0 _ (D5.out.trans (ZU.out.trans (World.grownBy_alloc _ _ none))) (tabs_kept HT0.out (World.grownBy_alloc _ _ none))).mono ?_
        rintro e v ⟨hg, y, p, rfl⟩
        have GV := Lib.hid hg
        have ZV : Hid (W5.grownBy v none) := Lib.hid ((ZU.out.trans (World.grownBy_alloc _ _ none)).trans hg)
        clear hg
        refine hK.out _ _ ZV (fun hHeld => ?_)
        clear hK K'
        simp only [List.setIfInBounds_toArray, List.set_cons_zero, List.set_cons_succ]
        refine wpAnyH_take (i := 11) (v := ?vg6_11z16) rfl (by kernel_rfl) (by kernel_rfl) (by kernel_rfl) (fun _ _ _ h => h) (Or.inl ⟨by rfl, ?yg6_11z16⟩) (by assumption) ?rg6_11z16
        case yg6_11z16 => (intro w hSw; (try dsimp only at hSw); go_simp; first | (rw [if_neg (by omega)]) | (with_reducible rfl) | skip)
        simp only [Act.put, List.getElem_toArray, List.getElem_cons_succ, List.getElem_cons_zero, List.setIfInBounds_toArray, List.set_cons_zero, List.set_cons_succ]
        refine wpAnyH_take (i := 12) (v := ?vg6_12z17) rfl (by kernel_rfl) (by kernel_rfl) (by kernel_rfl) (fun _ _ _ h => h) (Or.inl ⟨by rfl, ?yg6_12z17⟩) (by assumption) ?rg6_12z17
        case yg6_12z17 => (intro w hSw; (try dsimp only at hSw); go_simp; first | (rw [if_neg (by omega)]) | (with_reducible rfl) | skip)
        simp only [Act.put, List.getElem_toArray, List.getElem_cons_succ, List.getElem_cons_zero, List.setIfInBounds_toArray, List.set_cons_zero, List.set_cons_succ]
        refine wpAnyH_take (i := 13) (v := ?vg6_13z18) rfl (by kernel_rfl) (by kernel_rfl) (by kernel_rfl) (fun _ _ _ h => h) (Or.inl ⟨by rfl, ?yg6_13z18⟩) (by assumption) ?rg6_13z18
        case yg6_13z18 => (intro w hSw; (try dsimp only at hSw); go_simp; first | (rw [if_neg (by omega)]) | (with_reducible rfl) | skip)
        simp only [Act.put, List.getElem_toArray, List.getElem_cons_succ, List.getElem_cons_zero, List.setIfInBounds_toArray, List.set_cons_zero, List.set_cons_succ]
        refine wpAnyH_take (i := 14) (v := ?vg6_14z19) rfl (by kernel_rfl) (by kernel_rfl) (by kernel_rfl) (fun _ _ _ h => h) (Or.inl ⟨by rfl, ?yg6_14z19⟩) (by assumption) ?rg6_14z19
        case yg6_14z19 => (intro w hSw; (try dsimp only at hSw); go_simp; first | (rw [if_neg (by omega)]) | (with_reducible rfl) | skip)
        simp only [Act.put, List.getElem_toArray, List.getElem_cons_succ, List.getElem_cons_zero, List.setIfInBounds_toArray, List.set_cons_zero, List.set_cons_succ]
        refine wpAnyH_ready (rs := [16]) (by kernel_rfl) (by simp) ?_
        refine AllReadyH.cons rfl (fun K' hK => ?_) AllReadyH.nil
        refine wp_store_row 36 (.tmp 14) (.tmp 54) rfl _ y.c (by rfl) (by rfl) 36 (Qm.z 0).c (blk_grown GV.out (heap_alloc_new _ _)) (by rw [Qm.c_size]; exact query_size) (by rw [Qm.c_size, Qm.c_size]) (Qm.c_all _) ?_
        refine hK.out _ _ (Lib.hid (grown_thenX ZV.out (grown_setRow _ _ _) (fun j e => by cases e; exact ZU.out.size))) (fun hHeld => ?_)
        clear hK K'
        simp only [Act.put, List.getElem_toArray, List.getElem_cons_succ, List.getElem_cons_zero, List.setIfInBounds_toArray, List.set_cons_zero, List.set_cons_succ]
        refine wpAnyH_take (i := 17) (v := ?vg6_17z20) rfl (by kernel_rfl) (by kernel_rfl) (by kernel_rfl) (fun _ _ _ h => h) (Or.inl ⟨by rfl, ?yg6_17z20⟩) (by assumption) ?rg6_17z20
        case yg6_17z20 => (intro w hSw; (try dsimp only at hSw); go_simp; first | (rw [if_neg (by omega)]) | (with_reducible rfl) | skip)
        simp only [Act.put, List.getElem_toArray, List.getElem_cons_succ, List.getElem_cons_zero, List.setIfInBounds_toArray, List.set_cons_zero, List.set_cons_succ]
        refine wpAnyH_take (i := 18) (v := ?vg6_18z21) rfl (by kernel_rfl) (by kernel_rfl) (by kernel_rfl) (fun _ _ _ h => h) (Or.inl ⟨by rfl, ?yg6_18z21⟩) (by assumption) ?rg6_18z21
        case yg6_18z21 => (intro w hSw; (try dsimp only at hSw); go_simp; first | (rw [if_neg (by omega)]) | (with_reducible rfl) | skip)
        simp only [Act.put, List.getElem_toArray, List.getElem_cons_succ, List.getElem_cons_zero, List.setIfInBounds_toArray, List.set_cons_zero, List.set_cons_succ]
        refine wpAnyH_done (by kernel_rfl) ?_ _
        go_wp2_with fail
        go_meet
        exact ⟨rfl, Lib.hid (grown_thenX ZV.out (grown_setRow _ _ _) (fun j e => by cases e; first | exact Nat.le_refl _ | exact ZU.out.size | exact ZV.out.size))⟩
    · go_simp
      skip
      refine hK.out _ _ (Lib.hid ((grown_drewT (grown_reflX _ _)).trans (World.grownBy_alloc _ _ none))) (fun hHeld => ?_)
      clear hK K'
      simp only [List.setIfInBounds_toArray, List.set_cons_zero, List.set_cons_succ]
      refine wpAnyH_ready (rs := [9]) (by kernel_rfl) (by simp) ?_
      refine AllReadyH.cons rfl (fun K' hK => ?_) AllReadyH.nil
      go_simp
      go_at_call 13
      refine (HT.out _).mono ?_
      rintro e u ⟨⟨a0, b0, rfl, ht⟩, hg⟩
      have GU := Lib.hid hg
      have ZU : Hid (W5.grownBy u none) := Lib.hid (((grown_drewT (grown_reflX _ _)).trans (World.grownBy_alloc _ _ none)).trans hg)
      have HT0 := Lib.hid ht
      clear ht hg
      refine hK.out _ _ ZU (fun hHeld => ?_)
      clear hK K'
      simp only [List.setIfInBounds_toArray, List.set_cons_zero, List.set_cons_succ]
      refine wpAnyH_ready (rs := [10]) (by kernel_rfl) (by simp) ?_
      refine AllReadyH.cons rfl (fun K' hK => ?_) AllReadyH.nil
      go_simp
      go_at_call 8
      refine (H1.out a0 b0 _ (D5.out.trans ZU.out) HT0.out).mono ?_
      rintro e v ⟨hg, y, p, rfl⟩
      have GV := Lib.hid hg
      have ZV : Hid (W5.grownBy v none) := Lib.hid (ZU.out.trans hg)
      clear hg
      refine hK.out _ _ ZV (fun hHeld => ?_)
      clear hK K'
      simp only [List.setIfInBounds_toArray, List.set_cons_zero, List.set_cons_succ]
      refine wpAnyH_take (i := 11) (v := ?vg6_11z22) rfl (by kernel_rfl) (by kernel_rfl) (by kernel_rfl) (fun _ _ _ h => h) (Or.inl ⟨by rfl, ?yg6_11z22⟩) (by assumption) ?rg6_11z22
      case yg6_11z22 => (intro w hSw; (try dsimp only at hSw); go_simp; first | (rw [if_neg (by omega)]) | (with_reducible rfl) | skip)
      simp only [Act.put, List.getElem_toArray, List.getElem_cons_succ, List.getElem_cons_zero, List.setIfInBounds_toArray, List.set_cons_zero, List.set_cons_succ]
      refine wpAnyH_take (i := 12) (v := ?vg6_12z23) rfl (by kernel_rfl) (by kernel_rfl) (by kernel_rfl) (fun _ _ _ h => h) (Or.inl ⟨by rfl, ?yg6_12z23⟩) (by assumption) ?rg6_12z23
      case yg6_12z23 => (intro w hSw; (try dsimp only at hSw); go_simp; first | (rw [if_neg (by omega)]) | (with_reducible rfl) | skip)
      simp only [Act.put, List.getElem_toArray, List.getElem_cons_succ, List.getElem_cons_zero, List.setIfInBounds_toArray, List.set_cons_zero, List.set_cons_succ]
      refine wpAnyH_take (i := 13) (v := ?vg6_13z24) rfl (by kernel_rfl) (by kernel_rfl) (by kernel_rfl) (fun _ _ _ h => h) (Or.inl ⟨by rfl, ?yg6_13z24⟩) (by assumption) ?rg6_13z24
      case yg6_13z24 => (intro w hSw; (try dsimp only at hSw); go_simp; first | (rw [if_neg (by omega)]) | (with_reducible rfl) | skip)
      simp only [Act.put, List.getElem_toArray, List.getElem_cons_succ, List.getElem_cons_zero, List.setIfInBounds_toArray, List.set_cons_zero, List.set_cons_succ]
      refine wpAnyH_take (i := 14) (v := ?vg6_14z25) rfl (by kernel_rfl) (by kernel_rfl) (by kernel_rfl) (fun _ _ _ h => h) (Or.inl ⟨by rfl, ?yg6_14z25⟩) (by assumption) ?rg6_14z25
      case yg6_14z25 => (intro w hSw; (try dsimp only at hSw); go_simp; first | (rw [if_neg (by omega)]) | (with_reducible rfl) | skip)
      simp only [Act.put, List.getElem_toArray, List.getElem_cons_succ, List.getElem_cons_zero, List.setIfInBounds_toArray, List.set_cons_zero, List.set_cons_succ]
      refine wpAnyH_ready (rs := [16]) (by kernel_rfl) (by simp) ?_
      refine AllReadyH.cons rfl (fun K' hK => ?_) AllReadyH.nil
      refine wp_store_row 36 (.tmp 14) (.tmp 54) rfl _ y.c (by rfl) (by rfl) 36 (Qm.z 0).c (blk_grown (GU.out.trans GV.out) (heap_alloc_new _ _)) (by rw [Qm.c_size]; exact query_size) (by rw [Qm.c_size, Qm.c_size]) (Qm.c_all _) ?_
      refine hK.out _ _ (Lib.hid (grown_thenX ZV.out (grown_setRow _ _ _) (fun j e => by cases e; exact Nat.le_refl _))) (fun hHeld => ?_)
      clear hK K'
      simp only [Act.put, List.getElem_toArray, List.getElem_cons_succ, List.getElem_cons_zero, List.setIfInBounds_toArray, List.set_cons_zero, List.set_cons_succ]
      refine wpAnyH_take (i := 17) (v := ?vg6_17z26) rfl (by kernel_rfl) (by kernel_rfl) (by kernel_rfl) (fun _ _ _ h => h) (Or.inl ⟨by rfl, ?yg6_17z26⟩) (by assumption) ?rg6_17z26
      case yg6_17z26 => (intro w hSw; (try dsimp only at hSw); go_simp; first | (rw [if_neg (by omega)]) | (with_reducible rfl) | skip)
      simp only [Act.put, List.getElem_toArray, List.getElem_cons_succ, List.getElem_cons_zero, List.setIfInBounds_toArray, List.set_cons_zero, List.set_cons_succ]
      refine wpAnyH_take (i := 18) (v := ?vg6_18z27) rfl (by kernel_rfl) (by kernel_rfl) (by kernel_rfl) (fun _ _ _ h => h) (Or.inl ⟨by rfl, ?yg6_18z27⟩) (by assumption) ?rg6_18z27
      case yg6_18z27 => (intro w hSw; (try dsimp only at hSw); go_simp; first | (rw [if_neg (by omega)]) | (with_reducible rfl) | skip)
      simp only [Act.put, List.getElem_toArray, List.getElem_cons_succ, List.getElem_cons_zero, List.setIfInBounds_toArray, List.set_cons_zero, List.set_cons_succ]
      refine wpAnyH_done (by kernel_rfl) ?_ _
      go_wp2_with fail
      go_meet
      exact ⟨rfl, Lib.hid (grown_thenX ZV.out (grown_setRow _ _ _) (fun j e => by cases e; first | exact Nat.le_refl _ | exact ZU.out.size | exact ZV.out.size))⟩
  case rest =>
  obtain ⟨rfl, hG⟩ := hcut
  have D5 := Lib.hid (D5.out.trans hG.out)
  have C := Lib.hid (C.out.keep hG.out)
  clear hG
  clear H1
  go_upto_region 7 with fail
  go_cut [17, 18, 19] from 57 (fun _ _ x wx => x = .int .i64 (r2 : Nat) ∧ Hid (wc.grownBy wx none))
  case first => as_aux_lemma =>
    refine wp_region_held_drew (S := (fun W => Hid (wc.grownBy W none))) (by kernel_rfl) (Lib.hid (grown_drewT (grown_reflX _ _))) (fun hHeld => ?_)
    refine wpAnyH_take (i := 0) (v := ?vg7_0z1) rfl (by kernel_rfl) (by kernel_rfl) (by kernel_rfl) (fun _ _ _ h => h) (Or.inl ⟨by rfl, ?yg7_0z1⟩) (by assumption) ?rg7_0z1
    case yg7_0z1 => (intro w hSw; (try dsimp only at hSw); go_simp; first | (rw [if_neg (by omega)]) | (with_reducible rfl) | skip)
    simp only [Act.put, List.getElem_toArray, List.getElem_cons_zero, List.size_toArray, List.length_cons, List.length_nil, Nat.reduceAdd, Array.replicate, List.replicate, List.setIfInBounds_toArray, List.set_cons_zero, List.set_cons_succ]
    refine wpAnyH_take (i := 1) (v := ?vg7_1z2) rfl (by kernel_rfl) (by kernel_rfl) (by kernel_rfl) (fun _ _ _ h => h) (Or.inl ⟨by rfl, ?yg7_1z2⟩) (by assumption) ?rg7_1z2
    case yg7_1z2 => (intro w hSw; (try dsimp only at hSw); go_simp; first | (rw [if_neg (by omega)]) | (with_reducible rfl) | skip)
    simp only [Act.put, List.getElem_toArray, List.getElem_cons_succ, List.getElem_cons_zero, List.setIfInBounds_toArray, List.set_cons_zero, List.set_cons_succ]
    refine wpAnyH_take (i := 2) (v := ?vg7_2z3) rfl (by kernel_rfl) (by kernel_rfl) (by kernel_rfl) (fun _ _ _ h => h) (Or.inl ⟨by rfl, ?yg7_2z3⟩) (by assumption) ?rg7_2z3
    case yg7_2z3 => (intro w hSw; have h0 := hSw.out.cell (C.out.1 i hi4) (by simp); clear hSw; go_simp; first | (rw [if_neg (by omega)]) | (with_reducible rfl) | skip)
    simp only [Act.put, List.getElem_toArray, List.getElem_cons_succ, List.getElem_cons_zero, List.setIfInBounds_toArray, List.set_cons_zero, List.set_cons_succ]
    refine wpAnyH_take (i := 3) (v := ?vg7_3z4) rfl (by kernel_rfl) (by kernel_rfl) (by kernel_rfl) (fun _ _ _ h => h) (Or.inl ⟨by rfl, ?yg7_3z4⟩) (by assumption) ?rg7_3z4
    case yg7_3z4 => (intro w hSw; (try dsimp only at hSw); go_simp; first | (rw [if_neg (by omega)]) | (with_reducible rfl) | skip)
    simp only [Act.put, List.getElem_toArray, List.getElem_cons_succ, List.getElem_cons_zero, List.setIfInBounds_toArray, List.set_cons_zero, List.set_cons_succ]
    refine wpAnyH_take (i := 4) (v := ?vg7_4z5) rfl (by kernel_rfl) (by kernel_rfl) (by kernel_rfl) (fun _ _ _ h => h) (Or.inl ⟨by rfl, ?yg7_4z5⟩) (by assumption) ?rg7_4z5
    case yg7_4z5 => (intro w hSw; (try dsimp only at hSw); go_simp; first | (rw [if_neg (by omega)]) | (with_reducible rfl) | skip)
    simp only [Act.put, List.getElem_toArray, List.getElem_cons_succ, List.getElem_cons_zero, List.setIfInBounds_toArray, List.set_cons_zero, List.set_cons_succ]
    refine wpAnyH_take (i := 5) (v := ?vg7_5z6) rfl (by kernel_rfl) (by kernel_rfl) (by kernel_rfl) (fun _ _ _ h => h) (Or.inl ⟨by rfl, ?yg7_5z6⟩) (by assumption) ?rg7_5z6
    case yg7_5z6 => (intro w hSw; (try dsimp only at hSw); go_simp; first | (rw [if_neg (by omega)]) | (with_reducible rfl) | skip)
    simp only [Act.put, List.getElem_toArray, List.getElem_cons_succ, List.getElem_cons_zero, List.setIfInBounds_toArray, List.set_cons_zero, List.set_cons_succ]
    refine wpAnyH_take (i := 6) (v := ?vg7_6z7) rfl (by kernel_rfl) (by kernel_rfl) (by kernel_rfl) (fun _ _ _ h => h) (Or.inl ⟨by rfl, ?yg7_6z7⟩) (by assumption) ?rg7_6z7
    case yg7_6z7 => (intro w hSw; (try dsimp only at hSw); go_simp; first | (rw [if_neg (by omega)]) | (with_reducible rfl) | skip)
    simp only [Act.put, List.getElem_toArray, List.getElem_cons_succ, List.getElem_cons_zero, List.setIfInBounds_toArray, List.set_cons_zero, List.set_cons_succ]
    refine wpAnyH_take (i := 7) (v := ?vg7_7z8) rfl (by kernel_rfl) (by kernel_rfl) (by kernel_rfl) (fun _ _ _ h => h) (Or.inl ⟨by rfl, ?yg7_7z8⟩) (by assumption) ?rg7_7z8
    case yg7_7z8 => (intro w hSw; have h0 := hSw.out.cell (C.out.1 j hj4) (by simp); clear hSw; go_simp; first | (rw [if_neg (by omega)]) | (with_reducible rfl) | skip)
    simp only [Act.put, List.getElem_toArray, List.getElem_cons_succ, List.getElem_cons_zero, List.setIfInBounds_toArray, List.set_cons_zero, List.set_cons_succ]
    refine wpAnyH_take (i := 8) (v := ?vg7_8z9) rfl (by kernel_rfl) (by kernel_rfl) (by kernel_rfl) (fun _ _ _ h => h) (Or.inl ⟨by rfl, ?yg7_8z9⟩) (by assumption) ?rg7_8z9
    case yg7_8z9 => (intro w hSw; (try dsimp only at hSw); go_simp; first | (rw [if_neg (by omega)]) | (with_reducible rfl) | skip)
    simp only [Act.put, List.getElem_toArray, List.getElem_cons_succ, List.getElem_cons_zero, List.setIfInBounds_toArray, List.set_cons_zero, List.set_cons_succ]
    refine wpAnyH_ready (rs := [9, 15]) (by kernel_rfl) (by simp) ?_
    refine (AllReadyH.cons rfl (fun K' hK => ?_) (AllReadyH.cons rfl (fun K' hK => ?_) AllReadyH.nil))
    · go_simp
      go_at_call 13
      refine (HT.out _).mono ?_
      rintro e u ⟨⟨a0, b0, rfl, ht⟩, hg⟩
      have GU := Lib.hid hg
      have ZU : Hid (wc.grownBy u none) := Lib.hid ((grown_drewT (grown_reflX _ _)).trans hg)
      have HT0 := Lib.hid ht
      clear ht hg
      refine hK.out _ _ ZU (fun hHeld => ?_)
      clear hK K'
      simp only [List.setIfInBounds_toArray, List.set_cons_zero, List.set_cons_succ]
      refine wpAnyH_ready (rs := [10, 15]) (by kernel_rfl) (by simp) ?_
      refine (AllReadyH.cons rfl (fun K' hK => ?_) (AllReadyH.cons rfl (fun K' hK => ?_) AllReadyH.nil))
      · go_simp
        go_at_call 8
        refine (H2.out a0 b0 _ (D5.out.trans ZU.out) HT0.out).mono ?_
        rintro e v ⟨hg, y, p, rfl⟩
        have GV := Lib.hid hg
        have ZV : Hid (wc.grownBy v none) := Lib.hid (ZU.out.trans hg)
        clear hg
        refine hK.out _ _ ZV (fun hHeld => ?_)
        clear hK K'
        simp only [List.setIfInBounds_toArray, List.set_cons_zero, List.set_cons_succ]
        refine wpAnyH_take (i := 11) (v := ?vg7_11z10) rfl (by kernel_rfl) (by kernel_rfl) (by kernel_rfl) (fun _ _ _ h => h) (Or.inl ⟨by rfl, ?yg7_11z10⟩) (by assumption) ?rg7_11z10
        case yg7_11z10 => (intro w hSw; (try dsimp only at hSw); go_simp; first | (rw [if_neg (by omega)]) | (with_reducible rfl) | skip)
        simp only [Act.put, List.getElem_toArray, List.getElem_cons_succ, List.getElem_cons_zero, List.setIfInBounds_toArray, List.set_cons_zero, List.set_cons_succ]
        refine wpAnyH_take (i := 12) (v := ?vg7_12z11) rfl (by kernel_rfl) (by kernel_rfl) (by kernel_rfl) (fun _ _ _ h => h) (Or.inl ⟨by rfl, ?yg7_12z11⟩) (by assumption) ?rg7_12z11
        case yg7_12z11 => (intro w hSw; (try dsimp only at hSw); go_simp; first | (rw [if_neg (by omega)]) | (with_reducible rfl) | skip)
        simp only [Act.put, List.getElem_toArray, List.getElem_cons_succ, List.getElem_cons_zero, List.setIfInBounds_toArray, List.set_cons_zero, List.set_cons_succ]
        refine wpAnyH_take (i := 13) (v := ?vg7_13z12) rfl (by kernel_rfl) (by kernel_rfl) (by kernel_rfl) (fun _ _ _ h => h) (Or.inl ⟨by rfl, ?yg7_13z12⟩) (by assumption) ?rg7_13z12
        case yg7_13z12 => (intro w hSw; (try dsimp only at hSw); go_simp; first | (rw [if_neg (by omega)]) | (with_reducible rfl) | skip)
        simp only [Act.put, List.getElem_toArray, List.getElem_cons_succ, List.getElem_cons_zero, List.setIfInBounds_toArray, List.set_cons_zero, List.set_cons_succ]
        refine wpAnyH_take (i := 14) (v := ?vg7_14z13) rfl (by kernel_rfl) (by kernel_rfl) (by kernel_rfl) (fun _ _ _ h => h) (Or.inl ⟨by rfl, ?yg7_14z13⟩) (by assumption) ?rg7_14z13
        case yg7_14z13 => (intro w hSw; (try dsimp only at hSw); go_simp; first | (rw [if_neg (by omega)]) | (with_reducible rfl) | skip)
        simp only [Act.put, List.getElem_toArray, List.getElem_cons_succ, List.getElem_cons_zero, List.setIfInBounds_toArray, List.set_cons_zero, List.set_cons_succ]
        refine wpAnyH_ready (rs := [15]) (by kernel_rfl) (by simp) ?_
        refine AllReadyH.cons rfl (fun K' hK => ?_) AllReadyH.nil
        go_simp
        skip
        refine hK.out _ _ (Lib.hid (ZV.out.trans (World.grownBy_alloc _ _ none))) (fun hHeld => ?_)
        clear hK K'
        simp only [List.setIfInBounds_toArray, List.set_cons_zero, List.set_cons_succ]
        refine wpAnyH_ready (rs := [16]) (by kernel_rfl) (by simp) ?_
        refine AllReadyH.cons rfl (fun K' hK => ?_) AllReadyH.nil
        refine wp_store_row 36 (.tmp 17) (.tmp 69) rfl _ y.c (by rfl) (by rfl) 36 (Qm.z 0).c (heap_alloc_new _ _) (by rw [Qm.c_size]; exact query_size) (by rw [Qm.c_size, Qm.c_size]) (Qm.c_all _) ?_
        refine hK.out _ _ (Lib.hid (grown_thenX (ZV.out.trans (World.grownBy_alloc _ _ none)) (grown_setRow _ _ _) (fun j e => by cases e; exact ZV.out.size))) (fun hHeld => ?_)
        clear hK K'
        simp only [Act.put, List.getElem_toArray, List.getElem_cons_succ, List.getElem_cons_zero, List.setIfInBounds_toArray, List.set_cons_zero, List.set_cons_succ]
        refine wpAnyH_take (i := 17) (v := ?vg7_17z14) rfl (by kernel_rfl) (by kernel_rfl) (by kernel_rfl) (fun _ _ _ h => h) (Or.inl ⟨by rfl, ?yg7_17z14⟩) (by assumption) ?rg7_17z14
        case yg7_17z14 => (intro w hSw; (try dsimp only at hSw); go_simp; first | (rw [if_neg (by omega)]) | (with_reducible rfl) | skip)
        simp only [Act.put, List.getElem_toArray, List.getElem_cons_succ, List.getElem_cons_zero, List.setIfInBounds_toArray, List.set_cons_zero, List.set_cons_succ]
        refine wpAnyH_take (i := 18) (v := ?vg7_18z15) rfl (by kernel_rfl) (by kernel_rfl) (by kernel_rfl) (fun _ _ _ h => h) (Or.inl ⟨by rfl, ?yg7_18z15⟩) (by assumption) ?rg7_18z15
        case yg7_18z15 => (intro w hSw; (try dsimp only at hSw); go_simp; first | (rw [if_neg (by omega)]) | (with_reducible rfl) | skip)
        simp only [Act.put, List.getElem_toArray, List.getElem_cons_succ, List.getElem_cons_zero, List.setIfInBounds_toArray, List.set_cons_zero, List.set_cons_succ]
        refine wpAnyH_done (by kernel_rfl) ?_ _
        go_wp2_with fail
        go_meet
        exact ⟨rfl, Lib.hid (grown_thenX (ZV.out.trans (World.grownBy_alloc _ _ none)) (grown_setRow _ _ _) (fun j e => by cases e; first | exact Nat.le_refl _ | exact ZU.out.size | exact ZV.out.size))⟩
      · go_simp
        skip
        refine hK.out _ _ (Lib.hid (ZU.out.trans (World.grownBy_alloc _ _ none))) (fun hHeld => ?_)
        clear hK K'
        simp only [List.setIfInBounds_toArray, List.set_cons_zero, List.set_cons_succ]
        refine wpAnyH_ready (rs := [10]) (by kernel_rfl) (by simp) ?_
        refine AllReadyH.cons rfl (fun K' hK => ?_) AllReadyH.nil
        go_simp
        go_at_call 8
        refine (H2.out a0 b0 _ (D5.out.trans (ZU.out.trans (World.grownBy_alloc _ _ none))) (tabs_kept HT0.out (World.grownBy_alloc _ _ none))).mono ?_
        rintro e v ⟨hg, y, p, rfl⟩
        have GV := Lib.hid hg
        have ZV : Hid (wc.grownBy v none) := Lib.hid ((ZU.out.trans (World.grownBy_alloc _ _ none)).trans hg)
        clear hg
        refine hK.out _ _ ZV (fun hHeld => ?_)
        clear hK K'
        simp only [List.setIfInBounds_toArray, List.set_cons_zero, List.set_cons_succ]
        refine wpAnyH_take (i := 11) (v := ?vg7_11z16) rfl (by kernel_rfl) (by kernel_rfl) (by kernel_rfl) (fun _ _ _ h => h) (Or.inl ⟨by rfl, ?yg7_11z16⟩) (by assumption) ?rg7_11z16
        case yg7_11z16 => (intro w hSw; (try dsimp only at hSw); go_simp; first | (rw [if_neg (by omega)]) | (with_reducible rfl) | skip)
        simp only [Act.put, List.getElem_toArray, List.getElem_cons_succ, List.getElem_cons_zero, List.setIfInBounds_toArray, List.set_cons_zero, List.set_cons_succ]
        refine wpAnyH_take (i := 12) (v := ?vg7_12z17) rfl (by kernel_rfl) (by kernel_rfl) (by kernel_rfl) (fun _ _ _ h => h) (Or.inl ⟨by rfl, ?yg7_12z17⟩) (by assumption) ?rg7_12z17
        case yg7_12z17 => (intro w hSw; (try dsimp only at hSw); go_simp; first | (rw [if_neg (by omega)]) | (with_reducible rfl) | skip)
        simp only [Act.put, List.getElem_toArray, List.getElem_cons_succ, List.getElem_cons_zero, List.setIfInBounds_toArray, List.set_cons_zero, List.set_cons_succ]
        refine wpAnyH_take (i := 13) (v := ?vg7_13z18) rfl (by kernel_rfl) (by kernel_rfl) (by kernel_rfl) (fun _ _ _ h => h) (Or.inl ⟨by rfl, ?yg7_13z18⟩) (by assumption) ?rg7_13z18
        case yg7_13z18 => (intro w hSw; (try dsimp only at hSw); go_simp; first | (rw [if_neg (by omega)]) | (with_reducible rfl) | skip)
        simp only [Act.put, List.getElem_toArray, List.getElem_cons_succ, List.getElem_cons_zero, List.setIfInBounds_toArray, List.set_cons_zero, List.set_cons_succ]
        refine wpAnyH_take (i := 14) (v := ?vg7_14z19) rfl (by kernel_rfl) (by kernel_rfl) (by kernel_rfl) (fun _ _ _ h => h) (Or.inl ⟨by rfl, ?yg7_14z19⟩) (by assumption) ?rg7_14z19
        case yg7_14z19 => (intro w hSw; (try dsimp only at hSw); go_simp; first | (rw [if_neg (by omega)]) | (with_reducible rfl) | skip)
        simp only [Act.put, List.getElem_toArray, List.getElem_cons_succ, List.getElem_cons_zero, List.setIfInBounds_toArray, List.set_cons_zero, List.set_cons_succ]
        refine wpAnyH_ready (rs := [16]) (by kernel_rfl) (by simp) ?_
        refine AllReadyH.cons rfl (fun K' hK => ?_) AllReadyH.nil
        refine wp_store_row 36 (.tmp 17) (.tmp 69) rfl _ y.c (by rfl) (by rfl) 36 (Qm.z 0).c (blk_grown GV.out (heap_alloc_new _ _)) (by rw [Qm.c_size]; exact query_size) (by rw [Qm.c_size, Qm.c_size]) (Qm.c_all _) ?_
        refine hK.out _ _ (Lib.hid (grown_thenX ZV.out (grown_setRow _ _ _) (fun j e => by cases e; exact ZU.out.size))) (fun hHeld => ?_)
        clear hK K'
        simp only [Act.put, List.getElem_toArray, List.getElem_cons_succ, List.getElem_cons_zero, List.setIfInBounds_toArray, List.set_cons_zero, List.set_cons_succ]
        refine wpAnyH_take (i := 17) (v := ?vg7_17z20) rfl (by kernel_rfl) (by kernel_rfl) (by kernel_rfl) (fun _ _ _ h => h) (Or.inl ⟨by rfl, ?yg7_17z20⟩) (by assumption) ?rg7_17z20
        case yg7_17z20 => (intro w hSw; (try dsimp only at hSw); go_simp; first | (rw [if_neg (by omega)]) | (with_reducible rfl) | skip)
        simp only [Act.put, List.getElem_toArray, List.getElem_cons_succ, List.getElem_cons_zero, List.setIfInBounds_toArray, List.set_cons_zero, List.set_cons_succ]
        refine wpAnyH_take (i := 18) (v := ?vg7_18z21) rfl (by kernel_rfl) (by kernel_rfl) (by kernel_rfl) (fun _ _ _ h => h) (Or.inl ⟨by rfl, ?yg7_18z21⟩) (by assumption) ?rg7_18z21
        case yg7_18z21 => (intro w hSw; (try dsimp only at hSw); go_simp; first | (rw [if_neg (by omega)]) | (with_reducible rfl) | skip)
        simp only [Act.put, List.getElem_toArray, List.getElem_cons_succ, List.getElem_cons_zero, List.setIfInBounds_toArray, List.set_cons_zero, List.set_cons_succ]
        refine wpAnyH_done (by kernel_rfl) ?_ _
        go_wp2_with fail
        go_meet
        exact ⟨rfl, Lib.hid (grown_thenX ZV.out (grown_setRow _ _ _) (fun j e => by cases e; first | exact Nat.le_refl _ | exact ZU.out.size | exact ZV.out.size))⟩
    · go_simp
      skip
      refine hK.out _ _ (Lib.hid ((grown_drewT (grown_reflX _ _)).trans (World.grownBy_alloc _ _ none))) (fun hHeld => ?_)
      clear hK K'
      simp only [List.setIfInBounds_toArray, List.set_cons_zero, List.set_cons_succ]
      refine wpAnyH_ready (rs := [9]) (by kernel_rfl) (by simp) ?_
      refine AllReadyH.cons rfl (fun K' hK => ?_) AllReadyH.nil
      go_simp
      go_at_call 13
      refine (HT.out _).mono ?_
      rintro e u ⟨⟨a0, b0, rfl, ht⟩, hg⟩
      have GU := Lib.hid hg
      have ZU : Hid (wc.grownBy u none) := Lib.hid (((grown_drewT (grown_reflX _ _)).trans (World.grownBy_alloc _ _ none)).trans hg)
      have HT0 := Lib.hid ht
      clear ht hg
      refine hK.out _ _ ZU (fun hHeld => ?_)
      clear hK K'
      simp only [List.setIfInBounds_toArray, List.set_cons_zero, List.set_cons_succ]
      refine wpAnyH_ready (rs := [10]) (by kernel_rfl) (by simp) ?_
      refine AllReadyH.cons rfl (fun K' hK => ?_) AllReadyH.nil
      go_simp
      go_at_call 8
      refine (H2.out a0 b0 _ (D5.out.trans ZU.out) HT0.out).mono ?_
      rintro e v ⟨hg, y, p, rfl⟩
      have GV := Lib.hid hg
      have ZV : Hid (wc.grownBy v none) := Lib.hid (ZU.out.trans hg)
      clear hg
      refine hK.out _ _ ZV (fun hHeld => ?_)
      clear hK K'
      simp only [List.setIfInBounds_toArray, List.set_cons_zero, List.set_cons_succ]
      refine wpAnyH_take (i := 11) (v := ?vg7_11z22) rfl (by kernel_rfl) (by kernel_rfl) (by kernel_rfl) (fun _ _ _ h => h) (Or.inl ⟨by rfl, ?yg7_11z22⟩) (by assumption) ?rg7_11z22
      case yg7_11z22 => (intro w hSw; (try dsimp only at hSw); go_simp; first | (rw [if_neg (by omega)]) | (with_reducible rfl) | skip)
      simp only [Act.put, List.getElem_toArray, List.getElem_cons_succ, List.getElem_cons_zero, List.setIfInBounds_toArray, List.set_cons_zero, List.set_cons_succ]
      refine wpAnyH_take (i := 12) (v := ?vg7_12z23) rfl (by kernel_rfl) (by kernel_rfl) (by kernel_rfl) (fun _ _ _ h => h) (Or.inl ⟨by rfl, ?yg7_12z23⟩) (by assumption) ?rg7_12z23
      case yg7_12z23 => (intro w hSw; (try dsimp only at hSw); go_simp; first | (rw [if_neg (by omega)]) | (with_reducible rfl) | skip)
      simp only [Act.put, List.getElem_toArray, List.getElem_cons_succ, List.getElem_cons_zero, List.setIfInBounds_toArray, List.set_cons_zero, List.set_cons_succ]
      refine wpAnyH_take (i := 13) (v := ?vg7_13z24) rfl (by kernel_rfl) (by kernel_rfl) (by kernel_rfl) (fun _ _ _ h => h) (Or.inl ⟨by rfl, ?yg7_13z24⟩) (by assumption) ?rg7_13z24
      case yg7_13z24 => (intro w hSw; (try dsimp only at hSw); go_simp; first | (rw [if_neg (by omega)]) | (with_reducible rfl) | skip)
      simp only [Act.put, List.getElem_toArray, List.getElem_cons_succ, List.getElem_cons_zero, List.setIfInBounds_toArray, List.set_cons_zero, List.set_cons_succ]
      refine wpAnyH_take (i := 14) (v := ?vg7_14z25) rfl (by kernel_rfl) (by kernel_rfl) (by kernel_rfl) (fun _ _ _ h => h) (Or.inl ⟨by rfl, ?yg7_14z25⟩) (by assumption) ?rg7_14z25
      case yg7_14z25 => (intro w hSw; (try dsimp only at hSw); go_simp; first | (rw [if_neg (by omega)]) | (with_reducible rfl) | skip)
      simp only [Act.put, List.getElem_toArray, List.getElem_cons_succ, List.getElem_cons_zero, List.setIfInBounds_toArray, List.set_cons_zero, List.set_cons_succ]
      refine wpAnyH_ready (rs := [16]) (by kernel_rfl) (by simp) ?_
      refine AllReadyH.cons rfl (fun K' hK => ?_) AllReadyH.nil
      refine wp_store_row 36 (.tmp 17) (.tmp 69) rfl _ y.c (by rfl) (by rfl) 36 (Qm.z 0).c (blk_grown (GU.out.trans GV.out) (heap_alloc_new _ _)) (by rw [Qm.c_size]; exact query_size) (by rw [Qm.c_size, Qm.c_size]) (Qm.c_all _) ?_
      refine hK.out _ _ (Lib.hid (grown_thenX ZV.out (grown_setRow _ _ _) (fun j e => by cases e; exact Nat.le_refl _))) (fun hHeld => ?_)
      clear hK K'
      simp only [Act.put, List.getElem_toArray, List.getElem_cons_succ, List.getElem_cons_zero, List.setIfInBounds_toArray, List.set_cons_zero, List.set_cons_succ]
      refine wpAnyH_take (i := 17) (v := ?vg7_17z26) rfl (by kernel_rfl) (by kernel_rfl) (by kernel_rfl) (fun _ _ _ h => h) (Or.inl ⟨by rfl, ?yg7_17z26⟩) (by assumption) ?rg7_17z26
      case yg7_17z26 => (intro w hSw; (try dsimp only at hSw); go_simp; first | (rw [if_neg (by omega)]) | (with_reducible rfl) | skip)
      simp only [Act.put, List.getElem_toArray, List.getElem_cons_succ, List.getElem_cons_zero, List.setIfInBounds_toArray, List.set_cons_zero, List.set_cons_succ]
      refine wpAnyH_take (i := 18) (v := ?vg7_18z27) rfl (by kernel_rfl) (by kernel_rfl) (by kernel_rfl) (fun _ _ _ h => h) (Or.inl ⟨by rfl, ?yg7_18z27⟩) (by assumption) ?rg7_18z27
      case yg7_18z27 => (intro w hSw; (try dsimp only at hSw); go_simp; first | (rw [if_neg (by omega)]) | (with_reducible rfl) | skip)
      simp only [Act.put, List.getElem_toArray, List.getElem_cons_succ, List.getElem_cons_zero, List.setIfInBounds_toArray, List.set_cons_zero, List.set_cons_succ]
      refine wpAnyH_done (by kernel_rfl) ?_ _
      go_wp2_with fail
      go_meet
      exact ⟨rfl, Lib.hid (grown_thenX ZV.out (grown_setRow _ _ _) (fun j e => by cases e; first | exact Nat.le_refl _ | exact ZU.out.size | exact ZV.out.size))⟩
  case rest =>
  obtain ⟨rfl, hG⟩ := hcut
  have D5 := Lib.hid (D5.out.trans hG.out)
  have C := Lib.hid (C.out.keep hG.out)
  clear hG
  clear H2
  go_upto_region 8 with fail
  go_cut [20, 21, 22] from 72 (fun _ _ x wx => x = .int .i64 (r1 : Nat) ∧ Hid (wc.grownBy wx none))
  case first => as_aux_lemma =>
    refine wp_region_held_drew (S := (fun W => Hid (wc.grownBy W none))) (by kernel_rfl) (Lib.hid (grown_drewT (grown_reflX _ _))) (fun hHeld => ?_)
    refine wpAnyH_take (i := 0) (v := ?vg8_0z1) rfl (by kernel_rfl) (by kernel_rfl) (by kernel_rfl) (fun _ _ _ h => h) (Or.inl ⟨by rfl, ?yg8_0z1⟩) (by assumption) ?rg8_0z1
    case yg8_0z1 => (intro w hSw; (try dsimp only at hSw); go_simp; first | (rw [if_neg (by omega)]) | (with_reducible rfl) | skip)
    simp only [Act.put, List.getElem_toArray, List.getElem_cons_zero, List.size_toArray, List.length_cons, List.length_nil, Nat.reduceAdd, Array.replicate, List.replicate, List.setIfInBounds_toArray, List.set_cons_zero, List.set_cons_succ]
    refine wpAnyH_take (i := 1) (v := ?vg8_1z2) rfl (by kernel_rfl) (by kernel_rfl) (by kernel_rfl) (fun _ _ _ h => h) (Or.inl ⟨by rfl, ?yg8_1z2⟩) (by assumption) ?rg8_1z2
    case yg8_1z2 => (intro w hSw; (try dsimp only at hSw); go_simp; first | (rw [if_neg (by omega)]) | (with_reducible rfl) | skip)
    simp only [Act.put, List.getElem_toArray, List.getElem_cons_succ, List.getElem_cons_zero, List.setIfInBounds_toArray, List.set_cons_zero, List.set_cons_succ]
    refine wpAnyH_take (i := 2) (v := ?vg8_2z3) rfl (by kernel_rfl) (by kernel_rfl) (by kernel_rfl) (fun _ _ _ h => h) (Or.inl ⟨by rfl, ?yg8_2z3⟩) (by assumption) ?rg8_2z3
    case yg8_2z3 => (intro w hSw; have h0 := hSw.out.cell (C.out.1 i hi4) (by simp); clear hSw; go_simp; first | (rw [if_neg (by omega)]) | (with_reducible rfl) | skip)
    simp only [Act.put, List.getElem_toArray, List.getElem_cons_succ, List.getElem_cons_zero, List.setIfInBounds_toArray, List.set_cons_zero, List.set_cons_succ]
    refine wpAnyH_take (i := 3) (v := ?vg8_3z4) rfl (by kernel_rfl) (by kernel_rfl) (by kernel_rfl) (fun _ _ _ h => h) (Or.inl ⟨by rfl, ?yg8_3z4⟩) (by assumption) ?rg8_3z4
    case yg8_3z4 => (intro w hSw; (try dsimp only at hSw); go_simp; first | (rw [if_neg (by omega)]) | (with_reducible rfl) | skip)
    simp only [Act.put, List.getElem_toArray, List.getElem_cons_succ, List.getElem_cons_zero, List.setIfInBounds_toArray, List.set_cons_zero, List.set_cons_succ]
    refine wpAnyH_take (i := 4) (v := ?vg8_4z5) rfl (by kernel_rfl) (by kernel_rfl) (by kernel_rfl) (fun _ _ _ h => h) (Or.inl ⟨by rfl, ?yg8_4z5⟩) (by assumption) ?rg8_4z5
    case yg8_4z5 => (intro w hSw; (try dsimp only at hSw); go_simp; first | (rw [if_neg (by omega)]) | (with_reducible rfl) | skip)
    simp only [Act.put, List.getElem_toArray, List.getElem_cons_succ, List.getElem_cons_zero, List.setIfInBounds_toArray, List.set_cons_zero, List.set_cons_succ]
    refine wpAnyH_take (i := 5) (v := ?vg8_5z6) rfl (by kernel_rfl) (by kernel_rfl) (by kernel_rfl) (fun _ _ _ h => h) (Or.inl ⟨by rfl, ?yg8_5z6⟩) (by assumption) ?rg8_5z6
    case yg8_5z6 => (intro w hSw; (try dsimp only at hSw); go_simp; first | (rw [if_neg (by omega)]) | (with_reducible rfl) | skip)
    simp only [Act.put, List.getElem_toArray, List.getElem_cons_succ, List.getElem_cons_zero, List.setIfInBounds_toArray, List.set_cons_zero, List.set_cons_succ]
    refine wpAnyH_take (i := 6) (v := ?vg8_6z7) rfl (by kernel_rfl) (by kernel_rfl) (by kernel_rfl) (fun _ _ _ h => h) (Or.inl ⟨by rfl, ?yg8_6z7⟩) (by assumption) ?rg8_6z7
    case yg8_6z7 => (intro w hSw; (try dsimp only at hSw); go_simp; first | (rw [if_neg (by omega)]) | (with_reducible rfl) | skip)
    simp only [Act.put, List.getElem_toArray, List.getElem_cons_succ, List.getElem_cons_zero, List.setIfInBounds_toArray, List.set_cons_zero, List.set_cons_succ]
    refine wpAnyH_take (i := 7) (v := ?vg8_7z8) rfl (by kernel_rfl) (by kernel_rfl) (by kernel_rfl) (fun _ _ _ h => h) (Or.inl ⟨by rfl, ?yg8_7z8⟩) (by assumption) ?rg8_7z8
    case yg8_7z8 => (intro w hSw; have h0 := hSw.out.cell (C.out.2.2.1 k hk5) (by simp); clear hSw; go_simp; first | (rw [if_neg (by omega)]) | (with_reducible rfl) | skip)
    simp only [Act.put, List.getElem_toArray, List.getElem_cons_succ, List.getElem_cons_zero, List.setIfInBounds_toArray, List.set_cons_zero, List.set_cons_succ]
    refine wpAnyH_take (i := 8) (v := ?vg8_8z9) rfl (by kernel_rfl) (by kernel_rfl) (by kernel_rfl) (fun _ _ _ h => h) (Or.inl ⟨by rfl, ?yg8_8z9⟩) (by assumption) ?rg8_8z9
    case yg8_8z9 => (intro w hSw; (try dsimp only at hSw); go_simp; first | (rw [if_neg (by omega)]) | (with_reducible rfl) | skip)
    simp only [Act.put, List.getElem_toArray, List.getElem_cons_succ, List.getElem_cons_zero, List.setIfInBounds_toArray, List.set_cons_zero, List.set_cons_succ]
    refine wpAnyH_take (i := 9) (v := ?vg8_9z10) rfl (by kernel_rfl) (by kernel_rfl) (by kernel_rfl) (fun _ _ _ h => h) (Or.inl ⟨by rfl, ?yg8_9z10⟩) (by assumption) ?rg8_9z10
    case yg8_9z10 => (intro w hSw; (try dsimp only at hSw); go_simp; first | (rw [if_neg (by omega)]) | (with_reducible rfl) | skip)
    simp only [Act.put, List.getElem_toArray, List.getElem_cons_succ, List.getElem_cons_zero, List.setIfInBounds_toArray, List.set_cons_zero, List.set_cons_succ]
    refine wpAnyH_ready (rs := [10, 16]) (by kernel_rfl) (by simp) ?_
    refine (AllReadyH.cons rfl (fun K' hK => ?_) (AllReadyH.cons rfl (fun K' hK => ?_) AllReadyH.nil))
    · go_simp
      go_at_call 13
      refine (HT.out _).mono ?_
      rintro e u ⟨⟨a0, b0, rfl, ht⟩, hg⟩
      have GU := Lib.hid hg
      have ZU : Hid (wc.grownBy u none) := Lib.hid ((grown_drewT (grown_reflX _ _)).trans hg)
      have HT0 := Lib.hid ht
      clear ht hg
      refine hK.out _ _ ZU (fun hHeld => ?_)
      clear hK K'
      simp only [List.setIfInBounds_toArray, List.set_cons_zero, List.set_cons_succ]
      refine wpAnyH_ready (rs := [11, 16]) (by kernel_rfl) (by simp) ?_
      refine (AllReadyH.cons rfl (fun K' hK => ?_) (AllReadyH.cons rfl (fun K' hK => ?_) AllReadyH.nil))
      · go_simp
        go_at_call 8
        refine (H3.out a0 b0 _ (D5.out.trans ZU.out) HT0.out).mono ?_
        rintro e v ⟨hg, y, p, rfl⟩
        have GV := Lib.hid hg
        have ZV : Hid (wc.grownBy v none) := Lib.hid (ZU.out.trans hg)
        clear hg
        refine hK.out _ _ ZV (fun hHeld => ?_)
        clear hK K'
        simp only [List.setIfInBounds_toArray, List.set_cons_zero, List.set_cons_succ]
        refine wpAnyH_take (i := 12) (v := ?vg8_12z11) rfl (by kernel_rfl) (by kernel_rfl) (by kernel_rfl) (fun _ _ _ h => h) (Or.inl ⟨by rfl, ?yg8_12z11⟩) (by assumption) ?rg8_12z11
        case yg8_12z11 => (intro w hSw; (try dsimp only at hSw); go_simp; first | (rw [if_neg (by omega)]) | (with_reducible rfl) | skip)
        simp only [Act.put, List.getElem_toArray, List.getElem_cons_succ, List.getElem_cons_zero, List.setIfInBounds_toArray, List.set_cons_zero, List.set_cons_succ]
        refine wpAnyH_take (i := 13) (v := ?vg8_13z12) rfl (by kernel_rfl) (by kernel_rfl) (by kernel_rfl) (fun _ _ _ h => h) (Or.inl ⟨by rfl, ?yg8_13z12⟩) (by assumption) ?rg8_13z12
        case yg8_13z12 => (intro w hSw; (try dsimp only at hSw); go_simp; first | (rw [if_neg (by omega)]) | (with_reducible rfl) | skip)
        simp only [Act.put, List.getElem_toArray, List.getElem_cons_succ, List.getElem_cons_zero, List.setIfInBounds_toArray, List.set_cons_zero, List.set_cons_succ]
        refine wpAnyH_take (i := 14) (v := ?vg8_14z13) rfl (by kernel_rfl) (by kernel_rfl) (by kernel_rfl) (fun _ _ _ h => h) (Or.inl ⟨by rfl, ?yg8_14z13⟩) (by assumption) ?rg8_14z13
        case yg8_14z13 => (intro w hSw; (try dsimp only at hSw); go_simp; first | (rw [if_neg (by omega)]) | (with_reducible rfl) | skip)
        simp only [Act.put, List.getElem_toArray, List.getElem_cons_succ, List.getElem_cons_zero, List.setIfInBounds_toArray, List.set_cons_zero, List.set_cons_succ]
        refine wpAnyH_take (i := 15) (v := ?vg8_15z14) rfl (by kernel_rfl) (by kernel_rfl) (by kernel_rfl) (fun _ _ _ h => h) (Or.inl ⟨by rfl, ?yg8_15z14⟩) (by assumption) ?rg8_15z14
        case yg8_15z14 => (intro w hSw; (try dsimp only at hSw); go_simp; first | (rw [if_neg (by omega)]) | (with_reducible rfl) | skip)
        simp only [Act.put, List.getElem_toArray, List.getElem_cons_succ, List.getElem_cons_zero, List.setIfInBounds_toArray, List.set_cons_zero, List.set_cons_succ]
        refine wpAnyH_ready (rs := [16]) (by kernel_rfl) (by simp) ?_
        refine AllReadyH.cons rfl (fun K' hK => ?_) AllReadyH.nil
        go_simp
        skip
        refine hK.out _ _ (Lib.hid (ZV.out.trans (World.grownBy_alloc _ _ none))) (fun hHeld => ?_)
        clear hK K'
        simp only [List.setIfInBounds_toArray, List.set_cons_zero, List.set_cons_succ]
        refine wpAnyH_ready (rs := [17]) (by kernel_rfl) (by simp) ?_
        refine AllReadyH.cons rfl (fun K' hK => ?_) AllReadyH.nil
        refine wp_store_row 36 (.tmp 20) (.tmp 85) rfl _ y.c (by rfl) (by rfl) 36 (Qm.z 0).c (heap_alloc_new _ _) (by rw [Qm.c_size]; exact query_size) (by rw [Qm.c_size, Qm.c_size]) (Qm.c_all _) ?_
        refine hK.out _ _ (Lib.hid (grown_thenX (ZV.out.trans (World.grownBy_alloc _ _ none)) (grown_setRow _ _ _) (fun j e => by cases e; exact ZV.out.size))) (fun hHeld => ?_)
        clear hK K'
        simp only [Act.put, List.getElem_toArray, List.getElem_cons_succ, List.getElem_cons_zero, List.setIfInBounds_toArray, List.set_cons_zero, List.set_cons_succ]
        refine wpAnyH_take (i := 18) (v := ?vg8_18z15) rfl (by kernel_rfl) (by kernel_rfl) (by kernel_rfl) (fun _ _ _ h => h) (Or.inl ⟨by rfl, ?yg8_18z15⟩) (by assumption) ?rg8_18z15
        case yg8_18z15 => (intro w hSw; (try dsimp only at hSw); go_simp; first | (rw [if_neg (by omega)]) | (with_reducible rfl) | skip)
        simp only [Act.put, List.getElem_toArray, List.getElem_cons_succ, List.getElem_cons_zero, List.setIfInBounds_toArray, List.set_cons_zero, List.set_cons_succ]
        refine wpAnyH_take (i := 19) (v := ?vg8_19z16) rfl (by kernel_rfl) (by kernel_rfl) (by kernel_rfl) (fun _ _ _ h => h) (Or.inl ⟨by rfl, ?yg8_19z16⟩) (by assumption) ?rg8_19z16
        case yg8_19z16 => (intro w hSw; (try dsimp only at hSw); go_simp; first | (rw [if_neg (by omega)]) | (with_reducible rfl) | skip)
        simp only [Act.put, List.getElem_toArray, List.getElem_cons_succ, List.getElem_cons_zero, List.setIfInBounds_toArray, List.set_cons_zero, List.set_cons_succ]
        refine wpAnyH_done (by kernel_rfl) ?_ _
        go_wp2_with fail
        go_meet
        exact ⟨rfl, Lib.hid (grown_thenX (ZV.out.trans (World.grownBy_alloc _ _ none)) (grown_setRow _ _ _) (fun j e => by cases e; first | exact Nat.le_refl _ | exact ZU.out.size | exact ZV.out.size))⟩
      · go_simp
        skip
        refine hK.out _ _ (Lib.hid (ZU.out.trans (World.grownBy_alloc _ _ none))) (fun hHeld => ?_)
        clear hK K'
        simp only [List.setIfInBounds_toArray, List.set_cons_zero, List.set_cons_succ]
        refine wpAnyH_ready (rs := [11]) (by kernel_rfl) (by simp) ?_
        refine AllReadyH.cons rfl (fun K' hK => ?_) AllReadyH.nil
        go_simp
        go_at_call 8
        refine (H3.out a0 b0 _ (D5.out.trans (ZU.out.trans (World.grownBy_alloc _ _ none))) (tabs_kept HT0.out (World.grownBy_alloc _ _ none))).mono ?_
        rintro e v ⟨hg, y, p, rfl⟩
        have GV := Lib.hid hg
        have ZV : Hid (wc.grownBy v none) := Lib.hid ((ZU.out.trans (World.grownBy_alloc _ _ none)).trans hg)
        clear hg
        refine hK.out _ _ ZV (fun hHeld => ?_)
        clear hK K'
        simp only [List.setIfInBounds_toArray, List.set_cons_zero, List.set_cons_succ]
        refine wpAnyH_take (i := 12) (v := ?vg8_12z17) rfl (by kernel_rfl) (by kernel_rfl) (by kernel_rfl) (fun _ _ _ h => h) (Or.inl ⟨by rfl, ?yg8_12z17⟩) (by assumption) ?rg8_12z17
        case yg8_12z17 => (intro w hSw; (try dsimp only at hSw); go_simp; first | (rw [if_neg (by omega)]) | (with_reducible rfl) | skip)
        simp only [Act.put, List.getElem_toArray, List.getElem_cons_succ, List.getElem_cons_zero, List.setIfInBounds_toArray, List.set_cons_zero, List.set_cons_succ]
        refine wpAnyH_take (i := 13) (v := ?vg8_13z18) rfl (by kernel_rfl) (by kernel_rfl) (by kernel_rfl) (fun _ _ _ h => h) (Or.inl ⟨by rfl, ?yg8_13z18⟩) (by assumption) ?rg8_13z18
        case yg8_13z18 => (intro w hSw; (try dsimp only at hSw); go_simp; first | (rw [if_neg (by omega)]) | (with_reducible rfl) | skip)
        simp only [Act.put, List.getElem_toArray, List.getElem_cons_succ, List.getElem_cons_zero, List.setIfInBounds_toArray, List.set_cons_zero, List.set_cons_succ]
        refine wpAnyH_take (i := 14) (v := ?vg8_14z19) rfl (by kernel_rfl) (by kernel_rfl) (by kernel_rfl) (fun _ _ _ h => h) (Or.inl ⟨by rfl, ?yg8_14z19⟩) (by assumption) ?rg8_14z19
        case yg8_14z19 => (intro w hSw; (try dsimp only at hSw); go_simp; first | (rw [if_neg (by omega)]) | (with_reducible rfl) | skip)
        simp only [Act.put, List.getElem_toArray, List.getElem_cons_succ, List.getElem_cons_zero, List.setIfInBounds_toArray, List.set_cons_zero, List.set_cons_succ]
        refine wpAnyH_take (i := 15) (v := ?vg8_15z20) rfl (by kernel_rfl) (by kernel_rfl) (by kernel_rfl) (fun _ _ _ h => h) (Or.inl ⟨by rfl, ?yg8_15z20⟩) (by assumption) ?rg8_15z20
        case yg8_15z20 => (intro w hSw; (try dsimp only at hSw); go_simp; first | (rw [if_neg (by omega)]) | (with_reducible rfl) | skip)
        simp only [Act.put, List.getElem_toArray, List.getElem_cons_succ, List.getElem_cons_zero, List.setIfInBounds_toArray, List.set_cons_zero, List.set_cons_succ]
        refine wpAnyH_ready (rs := [17]) (by kernel_rfl) (by simp) ?_
        refine AllReadyH.cons rfl (fun K' hK => ?_) AllReadyH.nil
        refine wp_store_row 36 (.tmp 20) (.tmp 85) rfl _ y.c (by rfl) (by rfl) 36 (Qm.z 0).c (blk_grown GV.out (heap_alloc_new _ _)) (by rw [Qm.c_size]; exact query_size) (by rw [Qm.c_size, Qm.c_size]) (Qm.c_all _) ?_
        refine hK.out _ _ (Lib.hid (grown_thenX ZV.out (grown_setRow _ _ _) (fun j e => by cases e; exact ZU.out.size))) (fun hHeld => ?_)
        clear hK K'
        simp only [Act.put, List.getElem_toArray, List.getElem_cons_succ, List.getElem_cons_zero, List.setIfInBounds_toArray, List.set_cons_zero, List.set_cons_succ]
        refine wpAnyH_take (i := 18) (v := ?vg8_18z21) rfl (by kernel_rfl) (by kernel_rfl) (by kernel_rfl) (fun _ _ _ h => h) (Or.inl ⟨by rfl, ?yg8_18z21⟩) (by assumption) ?rg8_18z21
        case yg8_18z21 => (intro w hSw; (try dsimp only at hSw); go_simp; first | (rw [if_neg (by omega)]) | (with_reducible rfl) | skip)
        simp only [Act.put, List.getElem_toArray, List.getElem_cons_succ, List.getElem_cons_zero, List.setIfInBounds_toArray, List.set_cons_zero, List.set_cons_succ]
        refine wpAnyH_take (i := 19) (v := ?vg8_19z22) rfl (by kernel_rfl) (by kernel_rfl) (by kernel_rfl) (fun _ _ _ h => h) (Or.inl ⟨by rfl, ?yg8_19z22⟩) (by assumption) ?rg8_19z22
        case yg8_19z22 => (intro w hSw; (try dsimp only at hSw); go_simp; first | (rw [if_neg (by omega)]) | (with_reducible rfl) | skip)
        simp only [Act.put, List.getElem_toArray, List.getElem_cons_succ, List.getElem_cons_zero, List.setIfInBounds_toArray, List.set_cons_zero, List.set_cons_succ]
        refine wpAnyH_done (by kernel_rfl) ?_ _
        go_wp2_with fail
        go_meet
        exact ⟨rfl, Lib.hid (grown_thenX ZV.out (grown_setRow _ _ _) (fun j e => by cases e; first | exact Nat.le_refl _ | exact ZU.out.size | exact ZV.out.size))⟩
    · go_simp
      skip
      refine hK.out _ _ (Lib.hid ((grown_drewT (grown_reflX _ _)).trans (World.grownBy_alloc _ _ none))) (fun hHeld => ?_)
      clear hK K'
      simp only [List.setIfInBounds_toArray, List.set_cons_zero, List.set_cons_succ]
      refine wpAnyH_ready (rs := [10]) (by kernel_rfl) (by simp) ?_
      refine AllReadyH.cons rfl (fun K' hK => ?_) AllReadyH.nil
      go_simp
      go_at_call 13
      refine (HT.out _).mono ?_
      rintro e u ⟨⟨a0, b0, rfl, ht⟩, hg⟩
      have GU := Lib.hid hg
      have ZU : Hid (wc.grownBy u none) := Lib.hid (((grown_drewT (grown_reflX _ _)).trans (World.grownBy_alloc _ _ none)).trans hg)
      have HT0 := Lib.hid ht
      clear ht hg
      refine hK.out _ _ ZU (fun hHeld => ?_)
      clear hK K'
      simp only [List.setIfInBounds_toArray, List.set_cons_zero, List.set_cons_succ]
      refine wpAnyH_ready (rs := [11]) (by kernel_rfl) (by simp) ?_
      refine AllReadyH.cons rfl (fun K' hK => ?_) AllReadyH.nil
      go_simp
      go_at_call 8
      refine (H3.out a0 b0 _ (D5.out.trans ZU.out) HT0.out).mono ?_
      rintro e v ⟨hg, y, p, rfl⟩
      have GV := Lib.hid hg
      have ZV : Hid (wc.grownBy v none) := Lib.hid (ZU.out.trans hg)
      clear hg
      refine hK.out _ _ ZV (fun hHeld => ?_)
      clear hK K'
      simp only [List.setIfInBounds_toArray, List.set_cons_zero, List.set_cons_succ]
      refine wpAnyH_take (i := 12) (v := ?vg8_12z23) rfl (by kernel_rfl) (by kernel_rfl) (by kernel_rfl) (fun _ _ _ h => h) (Or.inl ⟨by rfl, ?yg8_12z23⟩) (by assumption) ?rg8_12z23
      case yg8_12z23 => (intro w hSw; (try dsimp only at hSw); go_simp; first | (rw [if_neg (by omega)]) | (with_reducible rfl) | skip)
      simp only [Act.put, List.getElem_toArray, List.getElem_cons_succ, List.getElem_cons_zero, List.setIfInBounds_toArray, List.set_cons_zero, List.set_cons_succ]
      refine wpAnyH_take (i := 13) (v := ?vg8_13z24) rfl (by kernel_rfl) (by kernel_rfl) (by kernel_rfl) (fun _ _ _ h => h) (Or.inl ⟨by rfl, ?yg8_13z24⟩) (by assumption) ?rg8_13z24
      case yg8_13z24 => (intro w hSw; (try dsimp only at hSw); go_simp; first | (rw [if_neg (by omega)]) | (with_reducible rfl) | skip)
      simp only [Act.put, List.getElem_toArray, List.getElem_cons_succ, List.getElem_cons_zero, List.setIfInBounds_toArray, List.set_cons_zero, List.set_cons_succ]
      refine wpAnyH_take (i := 14) (v := ?vg8_14z25) rfl (by kernel_rfl) (by kernel_rfl) (by kernel_rfl) (fun _ _ _ h => h) (Or.inl ⟨by rfl, ?yg8_14z25⟩) (by assumption) ?rg8_14z25
      case yg8_14z25 => (intro w hSw; (try dsimp only at hSw); go_simp; first | (rw [if_neg (by omega)]) | (with_reducible rfl) | skip)
      simp only [Act.put, List.getElem_toArray, List.getElem_cons_succ, List.getElem_cons_zero, List.setIfInBounds_toArray, List.set_cons_zero, List.set_cons_succ]
      refine wpAnyH_take (i := 15) (v := ?vg8_15z26) rfl (by kernel_rfl) (by kernel_rfl) (by kernel_rfl) (fun _ _ _ h => h) (Or.inl ⟨by rfl, ?yg8_15z26⟩) (by assumption) ?rg8_15z26
      case yg8_15z26 => (intro w hSw; (try dsimp only at hSw); go_simp; first | (rw [if_neg (by omega)]) | (with_reducible rfl) | skip)
      simp only [Act.put, List.getElem_toArray, List.getElem_cons_succ, List.getElem_cons_zero, List.setIfInBounds_toArray, List.set_cons_zero, List.set_cons_succ]
      refine wpAnyH_ready (rs := [17]) (by kernel_rfl) (by simp) ?_
      refine AllReadyH.cons rfl (fun K' hK => ?_) AllReadyH.nil
      refine wp_store_row 36 (.tmp 20) (.tmp 85) rfl _ y.c (by rfl) (by rfl) 36 (Qm.z 0).c (blk_grown (GU.out.trans GV.out) (heap_alloc_new _ _)) (by rw [Qm.c_size]; exact query_size) (by rw [Qm.c_size, Qm.c_size]) (Qm.c_all _) ?_
      refine hK.out _ _ (Lib.hid (grown_thenX ZV.out (grown_setRow _ _ _) (fun j e => by cases e; exact Nat.le_refl _))) (fun hHeld => ?_)
      clear hK K'
      simp only [Act.put, List.getElem_toArray, List.getElem_cons_succ, List.getElem_cons_zero, List.setIfInBounds_toArray, List.set_cons_zero, List.set_cons_succ]
      refine wpAnyH_take (i := 18) (v := ?vg8_18z27) rfl (by kernel_rfl) (by kernel_rfl) (by kernel_rfl) (fun _ _ _ h => h) (Or.inl ⟨by rfl, ?yg8_18z27⟩) (by assumption) ?rg8_18z27
      case yg8_18z27 => (intro w hSw; (try dsimp only at hSw); go_simp; first | (rw [if_neg (by omega)]) | (with_reducible rfl) | skip)
      simp only [Act.put, List.getElem_toArray, List.getElem_cons_succ, List.getElem_cons_zero, List.setIfInBounds_toArray, List.set_cons_zero, List.set_cons_succ]
      refine wpAnyH_take (i := 19) (v := ?vg8_19z28) rfl (by kernel_rfl) (by kernel_rfl) (by kernel_rfl) (fun _ _ _ h => h) (Or.inl ⟨by rfl, ?yg8_19z28⟩) (by assumption) ?rg8_19z28
      case yg8_19z28 => (intro w hSw; (try dsimp only at hSw); go_simp; first | (rw [if_neg (by omega)]) | (with_reducible rfl) | skip)
      simp only [Act.put, List.getElem_toArray, List.getElem_cons_succ, List.getElem_cons_zero, List.setIfInBounds_toArray, List.set_cons_zero, List.set_cons_succ]
      refine wpAnyH_done (by kernel_rfl) ?_ _
      go_wp2_with fail
      go_meet
      exact ⟨rfl, Lib.hid (grown_thenX ZV.out (grown_setRow _ _ _) (fun j e => by cases e; first | exact Nat.le_refl _ | exact ZU.out.size | exact ZV.out.size))⟩
  case rest =>
  obtain ⟨rfl, hG⟩ := hcut
  have D5 := Lib.hid (D5.out.trans hG.out)
  have C := Lib.hid (C.out.keep hG.out)
  clear hG
  clear H3
  go_upto_region 9 with fail
  go_cut [23, 24, 25] from 88 (fun _ _ x wx => x = .int .i64 (r4 : Nat) ∧ Hid (wc.grownBy wx none))
  case first => as_aux_lemma =>
    refine wp_region_held_drew (S := (fun W => Hid (wc.grownBy W none))) (by kernel_rfl) (Lib.hid (grown_drewT (grown_reflX _ _))) (fun hHeld => ?_)
    refine wpAnyH_take (i := 0) (v := ?vg9_0z1) rfl (by kernel_rfl) (by kernel_rfl) (by kernel_rfl) (fun _ _ _ h => h) (Or.inl ⟨by rfl, ?yg9_0z1⟩) (by assumption) ?rg9_0z1
    case yg9_0z1 => (intro w hSw; (try dsimp only at hSw); go_simp; first | (rw [if_neg (by omega)]) | (with_reducible rfl) | skip)
    simp only [Act.put, List.getElem_toArray, List.getElem_cons_zero, List.size_toArray, List.length_cons, List.length_nil, Nat.reduceAdd, Array.replicate, List.replicate, List.setIfInBounds_toArray, List.set_cons_zero, List.set_cons_succ]
    refine wpAnyH_take (i := 1) (v := ?vg9_1z2) rfl (by kernel_rfl) (by kernel_rfl) (by kernel_rfl) (fun _ _ _ h => h) (Or.inl ⟨by rfl, ?yg9_1z2⟩) (by assumption) ?rg9_1z2
    case yg9_1z2 => (intro w hSw; (try dsimp only at hSw); go_simp; first | (rw [if_neg (by omega)]) | (with_reducible rfl) | skip)
    simp only [Act.put, List.getElem_toArray, List.getElem_cons_succ, List.getElem_cons_zero, List.setIfInBounds_toArray, List.set_cons_zero, List.set_cons_succ]
    refine wpAnyH_take (i := 2) (v := ?vg9_2z3) rfl (by kernel_rfl) (by kernel_rfl) (by kernel_rfl) (fun _ _ _ h => h) (Or.inl ⟨by rfl, ?yg9_2z3⟩) (by assumption) ?rg9_2z3
    case yg9_2z3 => (intro w hSw; have h0 := hSw.out.cell (C.out.2.2.1 k hk5) (by simp); clear hSw; go_simp; first | (rw [if_neg (by omega)]) | (with_reducible rfl) | skip)
    simp only [Act.put, List.getElem_toArray, List.getElem_cons_succ, List.getElem_cons_zero, List.setIfInBounds_toArray, List.set_cons_zero, List.set_cons_succ]
    refine wpAnyH_take (i := 3) (v := ?vg9_3z4) rfl (by kernel_rfl) (by kernel_rfl) (by kernel_rfl) (fun _ _ _ h => h) (Or.inl ⟨by rfl, ?yg9_3z4⟩) (by assumption) ?rg9_3z4
    case yg9_3z4 => (intro w hSw; (try dsimp only at hSw); go_simp; first | (rw [if_neg (by omega)]) | (with_reducible rfl) | skip)
    simp only [Act.put, List.getElem_toArray, List.getElem_cons_succ, List.getElem_cons_zero, List.setIfInBounds_toArray, List.set_cons_zero, List.set_cons_succ]
    refine wpAnyH_take (i := 4) (v := ?vg9_4z5) rfl (by kernel_rfl) (by kernel_rfl) (by kernel_rfl) (fun _ _ _ h => h) (Or.inl ⟨by rfl, ?yg9_4z5⟩) (by assumption) ?rg9_4z5
    case yg9_4z5 => (intro w hSw; (try dsimp only at hSw); go_simp; first | (rw [if_neg (by omega)]) | (with_reducible rfl) | skip)
    simp only [Act.put, List.getElem_toArray, List.getElem_cons_succ, List.getElem_cons_zero, List.setIfInBounds_toArray, List.set_cons_zero, List.set_cons_succ]
    refine wpAnyH_take (i := 5) (v := ?vg9_5z6) rfl (by kernel_rfl) (by kernel_rfl) (by kernel_rfl) (fun _ _ _ h => h) (Or.inl ⟨by rfl, ?yg9_5z6⟩) (by assumption) ?rg9_5z6
    case yg9_5z6 => (intro w hSw; (try dsimp only at hSw); go_simp; first | (rw [if_neg (by omega)]) | (with_reducible rfl) | skip)
    simp only [Act.put, List.getElem_toArray, List.getElem_cons_succ, List.getElem_cons_zero, List.setIfInBounds_toArray, List.set_cons_zero, List.set_cons_succ]
    refine wpAnyH_take (i := 6) (v := ?vg9_6z7) rfl (by kernel_rfl) (by kernel_rfl) (by kernel_rfl) (fun _ _ _ h => h) (Or.inl ⟨by rfl, ?yg9_6z7⟩) (by assumption) ?rg9_6z7
    case yg9_6z7 => (intro w hSw; (try dsimp only at hSw); go_simp; first | (rw [if_neg (by omega)]) | (with_reducible rfl) | skip)
    simp only [Act.put, List.getElem_toArray, List.getElem_cons_succ, List.getElem_cons_zero, List.setIfInBounds_toArray, List.set_cons_zero, List.set_cons_succ]
    refine wpAnyH_take (i := 7) (v := ?vg9_7z8) rfl (by kernel_rfl) (by kernel_rfl) (by kernel_rfl) (fun _ _ _ h => h) (Or.inl ⟨by rfl, ?yg9_7z8⟩) (by assumption) ?rg9_7z8
    case yg9_7z8 => (intro w hSw; (try dsimp only at hSw); go_simp; first | (rw [if_neg (by omega)]) | (with_reducible rfl) | skip)
    simp only [Act.put, List.getElem_toArray, List.getElem_cons_succ, List.getElem_cons_zero, List.setIfInBounds_toArray, List.set_cons_zero, List.set_cons_succ]
    refine wpAnyH_take (i := 8) (v := ?vg9_8z9) rfl (by kernel_rfl) (by kernel_rfl) (by kernel_rfl) (fun _ _ _ h => h) (Or.inl ⟨by rfl, ?yg9_8z9⟩) (by assumption) ?rg9_8z9
    case yg9_8z9 => (intro w hSw; (try dsimp only at hSw); go_simp; first | (rw [if_neg (by omega)]) | (with_reducible rfl) | skip)
    simp only [Act.put, List.getElem_toArray, List.getElem_cons_succ, List.getElem_cons_zero, List.setIfInBounds_toArray, List.set_cons_zero, List.set_cons_succ]
    refine wpAnyH_take (i := 9) (v := ?vg9_9z10) rfl (by kernel_rfl) (by kernel_rfl) (by kernel_rfl) (fun _ _ _ h => h) (Or.inl ⟨by rfl, ?yg9_9z10⟩) (by assumption) ?rg9_9z10
    case yg9_9z10 => (intro w hSw; have h0 := hSw.out.cell (C.out.2.2.1 k1 hk15) (by simp); clear hSw; go_simp; first | (rw [if_neg (by omega)]) | (with_reducible rfl) | skip)
    simp only [Act.put, List.getElem_toArray, List.getElem_cons_succ, List.getElem_cons_zero, List.setIfInBounds_toArray, List.set_cons_zero, List.set_cons_succ]
    refine wpAnyH_take (i := 10) (v := ?vg9_10z11) rfl (by kernel_rfl) (by kernel_rfl) (by kernel_rfl) (fun _ _ _ h => h) (Or.inl ⟨by rfl, ?yg9_10z11⟩) (by assumption) ?rg9_10z11
    case yg9_10z11 => (intro w hSw; (try dsimp only at hSw); go_simp; first | (rw [if_neg (by omega)]) | (with_reducible rfl) | skip)
    simp only [Act.put, List.getElem_toArray, List.getElem_cons_succ, List.getElem_cons_zero, List.setIfInBounds_toArray, List.set_cons_zero, List.set_cons_succ]
    refine wpAnyH_ready (rs := [11, 17]) (by kernel_rfl) (by simp) ?_
    refine (AllReadyH.cons rfl (fun K' hK => ?_) (AllReadyH.cons rfl (fun K' hK => ?_) AllReadyH.nil))
    · go_simp
      go_at_call 13
      refine (HT.out _).mono ?_
      rintro e u ⟨⟨a0, b0, rfl, ht⟩, hg⟩
      have GU := Lib.hid hg
      have ZU : Hid (wc.grownBy u none) := Lib.hid ((grown_drewT (grown_reflX _ _)).trans hg)
      have HT0 := Lib.hid ht
      clear ht hg
      refine hK.out _ _ ZU (fun hHeld => ?_)
      clear hK K'
      simp only [List.setIfInBounds_toArray, List.set_cons_zero, List.set_cons_succ]
      refine wpAnyH_ready (rs := [12, 17]) (by kernel_rfl) (by simp) ?_
      refine (AllReadyH.cons rfl (fun K' hK => ?_) (AllReadyH.cons rfl (fun K' hK => ?_) AllReadyH.nil))
      · go_simp
        go_at_call 8
        refine (H4.out a0 b0 _ (D5.out.trans ZU.out) HT0.out).mono ?_
        rintro e v ⟨hg, y, p, rfl⟩
        have GV := Lib.hid hg
        have ZV : Hid (wc.grownBy v none) := Lib.hid (ZU.out.trans hg)
        clear hg
        refine hK.out _ _ ZV (fun hHeld => ?_)
        clear hK K'
        simp only [List.setIfInBounds_toArray, List.set_cons_zero, List.set_cons_succ]
        refine wpAnyH_take (i := 13) (v := ?vg9_13z12) rfl (by kernel_rfl) (by kernel_rfl) (by kernel_rfl) (fun _ _ _ h => h) (Or.inl ⟨by rfl, ?yg9_13z12⟩) (by assumption) ?rg9_13z12
        case yg9_13z12 => (intro w hSw; (try dsimp only at hSw); go_simp; first | (rw [if_neg (by omega)]) | (with_reducible rfl) | skip)
        simp only [Act.put, List.getElem_toArray, List.getElem_cons_succ, List.getElem_cons_zero, List.setIfInBounds_toArray, List.set_cons_zero, List.set_cons_succ]
        refine wpAnyH_take (i := 14) (v := ?vg9_14z13) rfl (by kernel_rfl) (by kernel_rfl) (by kernel_rfl) (fun _ _ _ h => h) (Or.inl ⟨by rfl, ?yg9_14z13⟩) (by assumption) ?rg9_14z13
        case yg9_14z13 => (intro w hSw; (try dsimp only at hSw); go_simp; first | (rw [if_neg (by omega)]) | (with_reducible rfl) | skip)
        simp only [Act.put, List.getElem_toArray, List.getElem_cons_succ, List.getElem_cons_zero, List.setIfInBounds_toArray, List.set_cons_zero, List.set_cons_succ]
        refine wpAnyH_take (i := 15) (v := ?vg9_15z14) rfl (by kernel_rfl) (by kernel_rfl) (by kernel_rfl) (fun _ _ _ h => h) (Or.inl ⟨by rfl, ?yg9_15z14⟩) (by assumption) ?rg9_15z14
        case yg9_15z14 => (intro w hSw; (try dsimp only at hSw); go_simp; first | (rw [if_neg (by omega)]) | (with_reducible rfl) | skip)
        simp only [Act.put, List.getElem_toArray, List.getElem_cons_succ, List.getElem_cons_zero, List.setIfInBounds_toArray, List.set_cons_zero, List.set_cons_succ]
        refine wpAnyH_take (i := 16) (v := ?vg9_16z15) rfl (by kernel_rfl) (by kernel_rfl) (by kernel_rfl) (fun _ _ _ h => h) (Or.inl ⟨by rfl, ?yg9_16z15⟩) (by assumption) ?rg9_16z15
        case yg9_16z15 => (intro w hSw; (try dsimp only at hSw); go_simp; first | (rw [if_neg (by omega)]) | (with_reducible rfl) | skip)
        simp only [Act.put, List.getElem_toArray, List.getElem_cons_succ, List.getElem_cons_zero, List.setIfInBounds_toArray, List.set_cons_zero, List.set_cons_succ]
        refine wpAnyH_ready (rs := [17]) (by kernel_rfl) (by simp) ?_
        refine AllReadyH.cons rfl (fun K' hK => ?_) AllReadyH.nil
        go_simp
        skip
        refine hK.out _ _ (Lib.hid (ZV.out.trans (World.grownBy_alloc _ _ none))) (fun hHeld => ?_)
        clear hK K'
        simp only [List.setIfInBounds_toArray, List.set_cons_zero, List.set_cons_succ]
        refine wpAnyH_ready (rs := [18]) (by kernel_rfl) (by simp) ?_
        refine AllReadyH.cons rfl (fun K' hK => ?_) AllReadyH.nil
        refine wp_store_row 36 (.tmp 23) (.tmp 102) rfl _ y.c (by rfl) (by rfl) 36 (Qm.z 0).c (heap_alloc_new _ _) (by rw [Qm.c_size]; exact query_size) (by rw [Qm.c_size, Qm.c_size]) (Qm.c_all _) ?_
        refine hK.out _ _ (Lib.hid (grown_thenX (ZV.out.trans (World.grownBy_alloc _ _ none)) (grown_setRow _ _ _) (fun j e => by cases e; exact ZV.out.size))) (fun hHeld => ?_)
        clear hK K'
        simp only [Act.put, List.getElem_toArray, List.getElem_cons_succ, List.getElem_cons_zero, List.setIfInBounds_toArray, List.set_cons_zero, List.set_cons_succ]
        refine wpAnyH_take (i := 19) (v := ?vg9_19z16) rfl (by kernel_rfl) (by kernel_rfl) (by kernel_rfl) (fun _ _ _ h => h) (Or.inl ⟨by rfl, ?yg9_19z16⟩) (by assumption) ?rg9_19z16
        case yg9_19z16 => (intro w hSw; (try dsimp only at hSw); go_simp; first | (rw [if_neg (by omega)]) | (with_reducible rfl) | skip)
        simp only [Act.put, List.getElem_toArray, List.getElem_cons_succ, List.getElem_cons_zero, List.setIfInBounds_toArray, List.set_cons_zero, List.set_cons_succ]
        refine wpAnyH_take (i := 20) (v := ?vg9_20z17) rfl (by kernel_rfl) (by kernel_rfl) (by kernel_rfl) (fun _ _ _ h => h) (Or.inl ⟨by rfl, ?yg9_20z17⟩) (by assumption) ?rg9_20z17
        case yg9_20z17 => (intro w hSw; (try dsimp only at hSw); go_simp; first | (rw [if_neg (by omega)]) | (with_reducible rfl) | skip)
        simp only [Act.put, List.getElem_toArray, List.getElem_cons_succ, List.getElem_cons_zero, List.setIfInBounds_toArray, List.set_cons_zero, List.set_cons_succ]
        refine wpAnyH_done (by kernel_rfl) ?_ _
        go_wp2_with fail
        go_meet
        exact ⟨rfl, Lib.hid (grown_thenX (ZV.out.trans (World.grownBy_alloc _ _ none)) (grown_setRow _ _ _) (fun j e => by cases e; first | exact Nat.le_refl _ | exact ZU.out.size | exact ZV.out.size))⟩
      · go_simp
        skip
        refine hK.out _ _ (Lib.hid (ZU.out.trans (World.grownBy_alloc _ _ none))) (fun hHeld => ?_)
        clear hK K'
        simp only [List.setIfInBounds_toArray, List.set_cons_zero, List.set_cons_succ]
        refine wpAnyH_ready (rs := [12]) (by kernel_rfl) (by simp) ?_
        refine AllReadyH.cons rfl (fun K' hK => ?_) AllReadyH.nil
        go_simp
        go_at_call 8
        refine (H4.out a0 b0 _ (D5.out.trans (ZU.out.trans (World.grownBy_alloc _ _ none))) (tabs_kept HT0.out (World.grownBy_alloc _ _ none))).mono ?_
        rintro e v ⟨hg, y, p, rfl⟩
        have GV := Lib.hid hg
        have ZV : Hid (wc.grownBy v none) := Lib.hid ((ZU.out.trans (World.grownBy_alloc _ _ none)).trans hg)
        clear hg
        refine hK.out _ _ ZV (fun hHeld => ?_)
        clear hK K'
        simp only [List.setIfInBounds_toArray, List.set_cons_zero, List.set_cons_succ]
        refine wpAnyH_take (i := 13) (v := ?vg9_13z18) rfl (by kernel_rfl) (by kernel_rfl) (by kernel_rfl) (fun _ _ _ h => h) (Or.inl ⟨by rfl, ?yg9_13z18⟩) (by assumption) ?rg9_13z18
        case yg9_13z18 => (intro w hSw; (try dsimp only at hSw); go_simp; first | (rw [if_neg (by omega)]) | (with_reducible rfl) | skip)
        simp only [Act.put, List.getElem_toArray, List.getElem_cons_succ, List.getElem_cons_zero, List.setIfInBounds_toArray, List.set_cons_zero, List.set_cons_succ]
        refine wpAnyH_take (i := 14) (v := ?vg9_14z19) rfl (by kernel_rfl) (by kernel_rfl) (by kernel_rfl) (fun _ _ _ h => h) (Or.inl ⟨by rfl, ?yg9_14z19⟩) (by assumption) ?rg9_14z19
        case yg9_14z19 => (intro w hSw; (try dsimp only at hSw); go_simp; first | (rw [if_neg (by omega)]) | (with_reducible rfl) | skip)
        simp only [Act.put, List.getElem_toArray, List.getElem_cons_succ, List.getElem_cons_zero, List.setIfInBounds_toArray, List.set_cons_zero, List.set_cons_succ]
        refine wpAnyH_take (i := 15) (v := ?vg9_15z20) rfl (by kernel_rfl) (by kernel_rfl) (by kernel_rfl) (fun _ _ _ h => h) (Or.inl ⟨by rfl, ?yg9_15z20⟩) (by assumption) ?rg9_15z20
        case yg9_15z20 => (intro w hSw; (try dsimp only at hSw); go_simp; first | (rw [if_neg (by omega)]) | (with_reducible rfl) | skip)
        simp only [Act.put, List.getElem_toArray, List.getElem_cons_succ, List.getElem_cons_zero, List.setIfInBounds_toArray, List.set_cons_zero, List.set_cons_succ]
        refine wpAnyH_take (i := 16) (v := ?vg9_16z21) rfl (by kernel_rfl) (by kernel_rfl) (by kernel_rfl) (fun _ _ _ h => h) (Or.inl ⟨by rfl, ?yg9_16z21⟩) (by assumption) ?rg9_16z21
        case yg9_16z21 => (intro w hSw; (try dsimp only at hSw); go_simp; first | (rw [if_neg (by omega)]) | (with_reducible rfl) | skip)
        simp only [Act.put, List.getElem_toArray, List.getElem_cons_succ, List.getElem_cons_zero, List.setIfInBounds_toArray, List.set_cons_zero, List.set_cons_succ]
        refine wpAnyH_ready (rs := [18]) (by kernel_rfl) (by simp) ?_
        refine AllReadyH.cons rfl (fun K' hK => ?_) AllReadyH.nil
        refine wp_store_row 36 (.tmp 23) (.tmp 102) rfl _ y.c (by rfl) (by rfl) 36 (Qm.z 0).c (blk_grown GV.out (heap_alloc_new _ _)) (by rw [Qm.c_size]; exact query_size) (by rw [Qm.c_size, Qm.c_size]) (Qm.c_all _) ?_
        refine hK.out _ _ (Lib.hid (grown_thenX ZV.out (grown_setRow _ _ _) (fun j e => by cases e; exact ZU.out.size))) (fun hHeld => ?_)
        clear hK K'
        simp only [Act.put, List.getElem_toArray, List.getElem_cons_succ, List.getElem_cons_zero, List.setIfInBounds_toArray, List.set_cons_zero, List.set_cons_succ]
        refine wpAnyH_take (i := 19) (v := ?vg9_19z22) rfl (by kernel_rfl) (by kernel_rfl) (by kernel_rfl) (fun _ _ _ h => h) (Or.inl ⟨by rfl, ?yg9_19z22⟩) (by assumption) ?rg9_19z22
        case yg9_19z22 => (intro w hSw; (try dsimp only at hSw); go_simp; first | (rw [if_neg (by omega)]) | (with_reducible rfl) | skip)
        simp only [Act.put, List.getElem_toArray, List.getElem_cons_succ, List.getElem_cons_zero, List.setIfInBounds_toArray, List.set_cons_zero, List.set_cons_succ]
        refine wpAnyH_take (i := 20) (v := ?vg9_20z23) rfl (by kernel_rfl) (by kernel_rfl) (by kernel_rfl) (fun _ _ _ h => h) (Or.inl ⟨by rfl, ?yg9_20z23⟩) (by assumption) ?rg9_20z23
        case yg9_20z23 => (intro w hSw; (try dsimp only at hSw); go_simp; first | (rw [if_neg (by omega)]) | (with_reducible rfl) | skip)
        simp only [Act.put, List.getElem_toArray, List.getElem_cons_succ, List.getElem_cons_zero, List.setIfInBounds_toArray, List.set_cons_zero, List.set_cons_succ]
        refine wpAnyH_done (by kernel_rfl) ?_ _
        go_wp2_with fail
        go_meet
        exact ⟨rfl, Lib.hid (grown_thenX ZV.out (grown_setRow _ _ _) (fun j e => by cases e; first | exact Nat.le_refl _ | exact ZU.out.size | exact ZV.out.size))⟩
    · go_simp
      skip
      refine hK.out _ _ (Lib.hid ((grown_drewT (grown_reflX _ _)).trans (World.grownBy_alloc _ _ none))) (fun hHeld => ?_)
      clear hK K'
      simp only [List.setIfInBounds_toArray, List.set_cons_zero, List.set_cons_succ]
      refine wpAnyH_ready (rs := [11]) (by kernel_rfl) (by simp) ?_
      refine AllReadyH.cons rfl (fun K' hK => ?_) AllReadyH.nil
      go_simp
      go_at_call 13
      refine (HT.out _).mono ?_
      rintro e u ⟨⟨a0, b0, rfl, ht⟩, hg⟩
      have GU := Lib.hid hg
      have ZU : Hid (wc.grownBy u none) := Lib.hid (((grown_drewT (grown_reflX _ _)).trans (World.grownBy_alloc _ _ none)).trans hg)
      have HT0 := Lib.hid ht
      clear ht hg
      refine hK.out _ _ ZU (fun hHeld => ?_)
      clear hK K'
      simp only [List.setIfInBounds_toArray, List.set_cons_zero, List.set_cons_succ]
      refine wpAnyH_ready (rs := [12]) (by kernel_rfl) (by simp) ?_
      refine AllReadyH.cons rfl (fun K' hK => ?_) AllReadyH.nil
      go_simp
      go_at_call 8
      refine (H4.out a0 b0 _ (D5.out.trans ZU.out) HT0.out).mono ?_
      rintro e v ⟨hg, y, p, rfl⟩
      have GV := Lib.hid hg
      have ZV : Hid (wc.grownBy v none) := Lib.hid (ZU.out.trans hg)
      clear hg
      refine hK.out _ _ ZV (fun hHeld => ?_)
      clear hK K'
      simp only [List.setIfInBounds_toArray, List.set_cons_zero, List.set_cons_succ]
      refine wpAnyH_take (i := 13) (v := ?vg9_13z24) rfl (by kernel_rfl) (by kernel_rfl) (by kernel_rfl) (fun _ _ _ h => h) (Or.inl ⟨by rfl, ?yg9_13z24⟩) (by assumption) ?rg9_13z24
      case yg9_13z24 => (intro w hSw; (try dsimp only at hSw); go_simp; first | (rw [if_neg (by omega)]) | (with_reducible rfl) | skip)
      simp only [Act.put, List.getElem_toArray, List.getElem_cons_succ, List.getElem_cons_zero, List.setIfInBounds_toArray, List.set_cons_zero, List.set_cons_succ]
      refine wpAnyH_take (i := 14) (v := ?vg9_14z25) rfl (by kernel_rfl) (by kernel_rfl) (by kernel_rfl) (fun _ _ _ h => h) (Or.inl ⟨by rfl, ?yg9_14z25⟩) (by assumption) ?rg9_14z25
      case yg9_14z25 => (intro w hSw; (try dsimp only at hSw); go_simp; first | (rw [if_neg (by omega)]) | (with_reducible rfl) | skip)
      simp only [Act.put, List.getElem_toArray, List.getElem_cons_succ, List.getElem_cons_zero, List.setIfInBounds_toArray, List.set_cons_zero, List.set_cons_succ]
      refine wpAnyH_take (i := 15) (v := ?vg9_15z26) rfl (by kernel_rfl) (by kernel_rfl) (by kernel_rfl) (fun _ _ _ h => h) (Or.inl ⟨by rfl, ?yg9_15z26⟩) (by assumption) ?rg9_15z26
      case yg9_15z26 => (intro w hSw; (try dsimp only at hSw); go_simp; first | (rw [if_neg (by omega)]) | (with_reducible rfl) | skip)
      simp only [Act.put, List.getElem_toArray, List.getElem_cons_succ, List.getElem_cons_zero, List.setIfInBounds_toArray, List.set_cons_zero, List.set_cons_succ]
      refine wpAnyH_take (i := 16) (v := ?vg9_16z27) rfl (by kernel_rfl) (by kernel_rfl) (by kernel_rfl) (fun _ _ _ h => h) (Or.inl ⟨by rfl, ?yg9_16z27⟩) (by assumption) ?rg9_16z27
      case yg9_16z27 => (intro w hSw; (try dsimp only at hSw); go_simp; first | (rw [if_neg (by omega)]) | (with_reducible rfl) | skip)
      simp only [Act.put, List.getElem_toArray, List.getElem_cons_succ, List.getElem_cons_zero, List.setIfInBounds_toArray, List.set_cons_zero, List.set_cons_succ]
      refine wpAnyH_ready (rs := [18]) (by kernel_rfl) (by simp) ?_
      refine AllReadyH.cons rfl (fun K' hK => ?_) AllReadyH.nil
      refine wp_store_row 36 (.tmp 23) (.tmp 102) rfl _ y.c (by rfl) (by rfl) 36 (Qm.z 0).c (blk_grown (GU.out.trans GV.out) (heap_alloc_new _ _)) (by rw [Qm.c_size]; exact query_size) (by rw [Qm.c_size, Qm.c_size]) (Qm.c_all _) ?_
      refine hK.out _ _ (Lib.hid (grown_thenX ZV.out (grown_setRow _ _ _) (fun j e => by cases e; exact Nat.le_refl _))) (fun hHeld => ?_)
      clear hK K'
      simp only [Act.put, List.getElem_toArray, List.getElem_cons_succ, List.getElem_cons_zero, List.setIfInBounds_toArray, List.set_cons_zero, List.set_cons_succ]
      refine wpAnyH_take (i := 19) (v := ?vg9_19z28) rfl (by kernel_rfl) (by kernel_rfl) (by kernel_rfl) (fun _ _ _ h => h) (Or.inl ⟨by rfl, ?yg9_19z28⟩) (by assumption) ?rg9_19z28
      case yg9_19z28 => (intro w hSw; (try dsimp only at hSw); go_simp; first | (rw [if_neg (by omega)]) | (with_reducible rfl) | skip)
      simp only [Act.put, List.getElem_toArray, List.getElem_cons_succ, List.getElem_cons_zero, List.setIfInBounds_toArray, List.set_cons_zero, List.set_cons_succ]
      refine wpAnyH_take (i := 20) (v := ?vg9_20z29) rfl (by kernel_rfl) (by kernel_rfl) (by kernel_rfl) (fun _ _ _ h => h) (Or.inl ⟨by rfl, ?yg9_20z29⟩) (by assumption) ?rg9_20z29
      case yg9_20z29 => (intro w hSw; (try dsimp only at hSw); go_simp; first | (rw [if_neg (by omega)]) | (with_reducible rfl) | skip)
      simp only [Act.put, List.getElem_toArray, List.getElem_cons_succ, List.getElem_cons_zero, List.setIfInBounds_toArray, List.set_cons_zero, List.set_cons_succ]
      refine wpAnyH_done (by kernel_rfl) ?_ _
      go_wp2_with fail
      go_meet
      exact ⟨rfl, Lib.hid (grown_thenX ZV.out (grown_setRow _ _ _) (fun j e => by cases e; first | exact Nat.le_refl _ | exact ZU.out.size | exact ZV.out.size))⟩
  case rest =>
  obtain ⟨rfl, hG⟩ := hcut
  have D5 := Lib.hid (D5.out.trans hG.out)
  have C := Lib.hid (C.out.keep hG.out)
  clear hG
  clear H4 HT
  obtain ⟨o, ho⟩ : ∃ o, o = of12 k := ⟨_, rfl⟩
  obtain ⟨o1, ho1⟩ : ∃ o, o = of12 k1 := ⟨_, rfl⟩
  obtain ⟨q, hq⟩ : ∃ o, o = kd12 i := ⟨_, rfl⟩
  obtain ⟨q2, hq2⟩ : ∃ o, o = kd12 j := ⟨_, rfl⟩
  have m1 := C.out.2.1 i hi4
  have m2 := C.out.2.1 j hj4
  have m3 := C.out.2.2.2 k hk5
  have m4 := C.out.2.2.2 k1 hk15
  rw [← hq] at m1
  rw [← hq2] at m2
  rw [← ho] at m3
  rw [← ho1] at m4
  obtain ⟨h1, h2, h4, h5⟩ := HG.out
  unfold gd at h1
  unfold gd2 at h4
  rw [← ho, ← hq] at h1
  rw [← hq, ← hq2] at h2
  rw [← ho, ← ho1] at h4
  have HG := Lib.hid (And.intro h1 (And.intro h2 (And.intro h4 h5)))
  clear h1 h2 h4 h5 ho ho1 hq hq2 C
  go_upto_region 10 with fail
  go_cut [26] from 105 (fun x wx => x = .bool g1 ∧ Hid (wc.grownBy wx none))
  case first => as_aux_lemma =>
    by_cases e0 : o = 0
    · have hg : g1 = true := by rw [HG.out.1]; simp [e0]
      subst e0
      clear HG hk1' hk15' hk15
      go_quiet (fail)
      go_wp2_with fail
      go_meet
      exact ⟨by rw [hg], Lib.hid (by first | exact grown_reflX _ _ | exact grown_drewT (grown_reflX _ _) | exact grown_drewNT (grown_reflX _ _) _)⟩
    · have n0 : ((o : Int) == 0) = false := nat_eqf e0
      by_cases e1 : o = q
      · have hg : g1 = true := by rw [HG.out.1]; simp [e1]
        subst e1
        clear HG hk1' hk15' hk15
        go_quiet (fail)
        go_wp2_with fail
        go_meet
        exact ⟨by rw [hg], Lib.hid (by first | exact grown_reflX _ _ | exact grown_drewT (grown_reflX _ _) | exact grown_drewNT (grown_reflX _ _) _)⟩
      · have hg : g1 = false := by rw [HG.out.1]; simp [e0, e1]
        have n1 : ((o : Int) == q) = false := by rw [beq_eq_false_iff_ne]; omega
        clear HG hk1' hk15' hk15
        go_quiet (fail)
        go_wp2_with fail
        go_meet
        exact ⟨by rw [hg], Lib.hid (by first | exact grown_reflX _ _ | exact grown_drewT (grown_reflX _ _) | exact grown_drewNT (grown_reflX _ _) _)⟩
  case rest =>
  obtain ⟨rfl, hG⟩ := hcut
  have D5 := Lib.hid (D5.out.trans hG.out)
  have m1 := hG.out.cell m1 (by simp)
  have m2 := hG.out.cell m2 (by simp)
  have m3 := hG.out.cell m3 (by simp)
  have m4 := hG.out.cell m4 (by simp)
  clear hG
  go_upto_region 11 with fail
  go_cut [27] from 118 (fun x wx => x = .bool g4 ∧ Hid (wc.grownBy wx none))
  case first => as_aux_lemma =>
    by_cases e0 : o = 0
    · have hg : g4 = true := by rw [HG.out.2.2.1]; simp [e0]
      subst e0
      clear HG
      refine wp_region_held_drew (S := (fun W => Hid (wc.grownBy W none))) (by kernel_rfl) (Lib.hid (grown_drewT (grown_reflX _ _))) (fun hHeld => ?_)
      refine wpAnyH_take (i := 0) (v := ?vh1_0z1) rfl (by kernel_rfl) (by kernel_rfl) (by kernel_rfl) (fun _ _ _ h => h) (Or.inl ⟨by rfl, ?yh1_0z1⟩) (by assumption) ?rh1_0z1
      case yh1_0z1 => (intro w hSw; (try dsimp only at hSw); go_simp; try with_reducible rfl)
      simp only [Act.put, List.getElem_toArray, List.getElem_cons_zero, List.size_toArray, List.length_cons, List.length_nil, Nat.reduceAdd, Array.replicate, List.replicate, List.setIfInBounds_toArray, List.set_cons_zero, List.set_cons_succ]
      refine wpAnyH_take (i := 1) (v := ?vh1_1z2) rfl (by kernel_rfl) (by kernel_rfl) (by kernel_rfl) (fun _ _ _ h => h) (Or.inl ⟨by rfl, ?yh1_1z2⟩) (by assumption) ?rh1_1z2
      case yh1_1z2 => (intro w hSw; (try dsimp only at hSw); go_simp; try with_reducible rfl)
      simp only [Act.put, List.getElem_toArray, List.getElem_cons_succ, List.getElem_cons_zero, List.setIfInBounds_toArray, List.set_cons_zero, List.set_cons_succ]
      refine wpAnyH_take (i := 2) (v := ?vh1_2z3) rfl (by kernel_rfl) (by kernel_rfl) (by kernel_rfl) (fun _ _ _ h => h) (Or.inl ⟨by rfl, ?yh1_2z3⟩) (by assumption) ?rh1_2z3
      case yh1_2z3 => (intro w hSw; have h0 := hSw.out.cell m3 (by simp); clear hSw; go_simp; try with_reducible rfl)
      simp only [Act.put, List.getElem_toArray, List.getElem_cons_succ, List.getElem_cons_zero, List.setIfInBounds_toArray, List.set_cons_zero, List.set_cons_succ]
      refine wpAnyH_take (i := 3) (v := ?vh1_3z4) rfl (by kernel_rfl) (by kernel_rfl) (by kernel_rfl) (fun _ _ _ h => h) (Or.inl ⟨by rfl, ?yh1_3z4⟩) (by assumption) ?rh1_3z4
      case yh1_3z4 => (intro w hSw; (try dsimp only at hSw); go_simp; try with_reducible rfl)
      simp only [Act.put, List.getElem_toArray, List.getElem_cons_succ, List.getElem_cons_zero, List.setIfInBounds_toArray, List.set_cons_zero, List.set_cons_succ]
      refine wpAnyH_take (i := 4) (v := ?vh1_4z5) rfl (by kernel_rfl) (by kernel_rfl) (by kernel_rfl) (fun _ _ _ h => h) (Or.inl ⟨by rfl, ?yh1_4z5⟩) (by assumption) ?rh1_4z5
      case yh1_4z5 => (intro w hSw; (try dsimp only at hSw); go_simp; try with_reducible rfl)
      simp only [Act.put, List.getElem_toArray, List.getElem_cons_succ, List.getElem_cons_zero, List.setIfInBounds_toArray, List.set_cons_zero, List.set_cons_succ]
      refine wpAnyH_take (i := 5) (v := undef) rfl (by kernel_rfl) (by kernel_rfl) (by kernel_rfl) (fun _ _ _ h => h) (Or.inr ⟨by rfl, rfl⟩) (by assumption) ?_
      simp only [Act.put, List.getElem_toArray, List.getElem_cons_succ, List.getElem_cons_zero, List.setIfInBounds_toArray, List.set_cons_zero, List.set_cons_succ]
      refine wpAnyH_take (i := 6) (v := undef) rfl (by kernel_rfl) (by kernel_rfl) (by kernel_rfl) (fun _ _ _ h => h) (Or.inr ⟨by rfl, rfl⟩) (by assumption) ?_
      simp only [Act.put, List.getElem_toArray, List.getElem_cons_succ, List.getElem_cons_zero, List.setIfInBounds_toArray, List.set_cons_zero, List.set_cons_succ]
      refine wpAnyH_take (i := 7) (v := undef) rfl (by kernel_rfl) (by kernel_rfl) (by kernel_rfl) (fun _ _ _ h => h) (Or.inr ⟨by rfl, rfl⟩) (by assumption) ?_
      simp only [Act.put, List.getElem_toArray, List.getElem_cons_succ, List.getElem_cons_zero, List.setIfInBounds_toArray, List.set_cons_zero, List.set_cons_succ]
      refine wpAnyH_take (i := 8) (v := undef) rfl (by kernel_rfl) (by kernel_rfl) (by kernel_rfl) (fun _ _ _ h => h) (Or.inr ⟨by rfl, rfl⟩) (by assumption) ?_
      simp only [Act.put, List.getElem_toArray, List.getElem_cons_succ, List.getElem_cons_zero, List.setIfInBounds_toArray, List.set_cons_zero, List.set_cons_succ]
      refine wpAnyH_take (i := 9) (v := undef) rfl (by kernel_rfl) (by kernel_rfl) (by kernel_rfl) (fun _ _ _ h => h) (Or.inr ⟨by rfl, rfl⟩) (by assumption) ?_
      simp only [Act.put, List.getElem_toArray, List.getElem_cons_succ, List.getElem_cons_zero, List.setIfInBounds_toArray, List.set_cons_zero, List.set_cons_succ]
      refine wpAnyH_take (i := 10) (v := undef) rfl (by kernel_rfl) (by kernel_rfl) (by kernel_rfl) (fun _ _ _ h => h) (Or.inr ⟨by rfl, rfl⟩) (by assumption) ?_
      simp only [Act.put, List.getElem_toArray, List.getElem_cons_succ, List.getElem_cons_zero, List.setIfInBounds_toArray, List.set_cons_zero, List.set_cons_succ]
      refine wpAnyH_take (i := 11) (v := ?vh1_11z6) rfl (by kernel_rfl) (by kernel_rfl) (by kernel_rfl) (fun _ _ _ h => h) (Or.inl ⟨by rfl, ?yh1_11z6⟩) (by assumption) ?rh1_11z6
      case yh1_11z6 => (intro w hSw; (try dsimp only at hSw); go_simp; try with_reducible rfl)
      simp only [Act.put, List.getElem_toArray, List.getElem_cons_succ, List.getElem_cons_zero, List.setIfInBounds_toArray, List.set_cons_zero, List.set_cons_succ]
      refine wpAnyH_take (i := 12) (v := ?vh1_12z7) rfl (by kernel_rfl) (by kernel_rfl) (by kernel_rfl) (fun _ _ _ h => h) (Or.inl ⟨by rfl, ?yh1_12z7⟩) (by assumption) ?rh1_12z7
      case yh1_12z7 => (intro w hSw; (try dsimp only at hSw); go_simp; try with_reducible rfl)
      simp only [Act.put, List.getElem_toArray, List.getElem_cons_succ, List.getElem_cons_zero, List.setIfInBounds_toArray, List.set_cons_zero, List.set_cons_succ]
      refine wpAnyH_take (i := 13) (v := undef) rfl (by kernel_rfl) (by kernel_rfl) (by kernel_rfl) (fun _ _ _ h => h) (Or.inr ⟨by rfl, rfl⟩) (by assumption) ?_
      simp only [Act.put, List.getElem_toArray, List.getElem_cons_succ, List.getElem_cons_zero, List.setIfInBounds_toArray, List.set_cons_zero, List.set_cons_succ]
      refine wpAnyH_take (i := 14) (v := undef) rfl (by kernel_rfl) (by kernel_rfl) (by kernel_rfl) (fun _ _ _ h => h) (Or.inr ⟨by rfl, rfl⟩) (by assumption) ?_
      simp only [Act.put, List.getElem_toArray, List.getElem_cons_succ, List.getElem_cons_zero, List.setIfInBounds_toArray, List.set_cons_zero, List.set_cons_succ]
      refine wpAnyH_take (i := 15) (v := undef) rfl (by kernel_rfl) (by kernel_rfl) (by kernel_rfl) (fun _ _ _ h => h) (Or.inr ⟨by rfl, rfl⟩) (by assumption) ?_
      simp only [Act.put, List.getElem_toArray, List.getElem_cons_succ, List.getElem_cons_zero, List.setIfInBounds_toArray, List.set_cons_zero, List.set_cons_succ]
      refine wpAnyH_take (i := 16) (v := undef) rfl (by kernel_rfl) (by kernel_rfl) (by kernel_rfl) (fun _ _ _ h => h) (Or.inr ⟨by rfl, rfl⟩) (by assumption) ?_
      simp only [Act.put, List.getElem_toArray, List.getElem_cons_succ, List.getElem_cons_zero, List.setIfInBounds_toArray, List.set_cons_zero, List.set_cons_succ]
      refine wpAnyH_take (i := 17) (v := undef) rfl (by kernel_rfl) (by kernel_rfl) (by kernel_rfl) (fun _ _ _ h => h) (Or.inr ⟨by rfl, rfl⟩) (by assumption) ?_
      simp only [Act.put, List.getElem_toArray, List.getElem_cons_succ, List.getElem_cons_zero, List.setIfInBounds_toArray, List.set_cons_zero, List.set_cons_succ]
      refine wpAnyH_take (i := 18) (v := undef) rfl (by kernel_rfl) (by kernel_rfl) (by kernel_rfl) (fun _ _ _ h => h) (Or.inr ⟨by rfl, rfl⟩) (by assumption) ?_
      simp only [Act.put, List.getElem_toArray, List.getElem_cons_succ, List.getElem_cons_zero, List.setIfInBounds_toArray, List.set_cons_zero, List.set_cons_succ]
      refine wpAnyH_take (i := 19) (v := undef) rfl (by kernel_rfl) (by kernel_rfl) (by kernel_rfl) (fun _ _ _ h => h) (Or.inr ⟨by rfl, rfl⟩) (by assumption) ?_
      simp only [Act.put, List.getElem_toArray, List.getElem_cons_succ, List.getElem_cons_zero, List.setIfInBounds_toArray, List.set_cons_zero, List.set_cons_succ]
      refine wpAnyH_take (i := 20) (v := undef) rfl (by kernel_rfl) (by kernel_rfl) (by kernel_rfl) (fun _ _ _ h => h) (Or.inr ⟨by rfl, rfl⟩) (by assumption) ?_
      simp only [Act.put, List.getElem_toArray, List.getElem_cons_succ, List.getElem_cons_zero, List.setIfInBounds_toArray, List.set_cons_zero, List.set_cons_succ]
      refine wpAnyH_take (i := 21) (v := undef) rfl (by kernel_rfl) (by kernel_rfl) (by kernel_rfl) (fun _ _ _ h => h) (Or.inr ⟨by rfl, rfl⟩) (by assumption) ?_
      simp only [Act.put, List.getElem_toArray, List.getElem_cons_succ, List.getElem_cons_zero, List.setIfInBounds_toArray, List.set_cons_zero, List.set_cons_succ]
      refine wpAnyH_take (i := 22) (v := ?vh1_22z8) rfl (by kernel_rfl) (by kernel_rfl) (by kernel_rfl) (fun _ _ _ h => h) (Or.inl ⟨by rfl, ?yh1_22z8⟩) (by assumption) ?rh1_22z8
      case yh1_22z8 => (intro w hSw; (try dsimp only at hSw); go_simp; try with_reducible rfl)
      simp only [Act.put, List.getElem_toArray, List.getElem_cons_succ, List.getElem_cons_zero, List.setIfInBounds_toArray, List.set_cons_zero, List.set_cons_succ]
      refine wpAnyH_take (i := 23) (v := ?vh1_23z9) rfl (by kernel_rfl) (by kernel_rfl) (by kernel_rfl) (fun _ _ _ h => h) (Or.inl ⟨by rfl, ?yh1_23z9⟩) (by assumption) ?rh1_23z9
      case yh1_23z9 => (intro w hSw; (try dsimp only at hSw); go_simp; try with_reducible rfl)
      simp only [Act.put, List.getElem_toArray, List.getElem_cons_succ, List.getElem_cons_zero, List.setIfInBounds_toArray, List.set_cons_zero, List.set_cons_succ]
      refine wpAnyH_done (by kernel_rfl) ?_ _
      go_wp2_with fail
      go_meet
      exact ⟨by rw [hg], Lib.hid (by first | exact grown_reflX _ _ | exact grown_drewT (grown_reflX _ _) | exact grown_drewNT (grown_reflX _ _) _)⟩
    · have n0 : ((o : Int) == 0) = false := nat_eqf e0
      by_cases e1 : o1 = 0
      · have hg : g4 = true := by rw [HG.out.2.2.1]; simp [e1]
        subst e1
        clear HG
        refine wp_region_held_drew (S := (fun W => Hid (wc.grownBy W none))) (by kernel_rfl) (Lib.hid (grown_drewT (grown_reflX _ _))) (fun hHeld => ?_)
        refine wpAnyH_take (i := 0) (v := ?vh2_0z1) rfl (by kernel_rfl) (by kernel_rfl) (by kernel_rfl) (fun _ _ _ h => h) (Or.inl ⟨by rfl, ?yh2_0z1⟩) (by assumption) ?rh2_0z1
        case yh2_0z1 => (intro w hSw; (try dsimp only at hSw); go_simp; try with_reducible rfl)
        simp only [Act.put, List.getElem_toArray, List.getElem_cons_zero, List.size_toArray, List.length_cons, List.length_nil, Nat.reduceAdd, Array.replicate, List.replicate, List.setIfInBounds_toArray, List.set_cons_zero, List.set_cons_succ]
        refine wpAnyH_take (i := 1) (v := ?vh2_1z2) rfl (by kernel_rfl) (by kernel_rfl) (by kernel_rfl) (fun _ _ _ h => h) (Or.inl ⟨by rfl, ?yh2_1z2⟩) (by assumption) ?rh2_1z2
        case yh2_1z2 => (intro w hSw; (try dsimp only at hSw); go_simp; try with_reducible rfl)
        simp only [Act.put, List.getElem_toArray, List.getElem_cons_succ, List.getElem_cons_zero, List.setIfInBounds_toArray, List.set_cons_zero, List.set_cons_succ]
        refine wpAnyH_take (i := 2) (v := ?vh2_2z3) rfl (by kernel_rfl) (by kernel_rfl) (by kernel_rfl) (fun _ _ _ h => h) (Or.inl ⟨by rfl, ?yh2_2z3⟩) (by assumption) ?rh2_2z3
        case yh2_2z3 => (intro w hSw; have h0 := hSw.out.cell m3 (by simp); clear hSw; go_simp; try with_reducible rfl)
        simp only [Act.put, List.getElem_toArray, List.getElem_cons_succ, List.getElem_cons_zero, List.setIfInBounds_toArray, List.set_cons_zero, List.set_cons_succ]
        refine wpAnyH_take (i := 3) (v := ?vh2_3z4) rfl (by kernel_rfl) (by kernel_rfl) (by kernel_rfl) (fun _ _ _ h => h) (Or.inl ⟨by rfl, ?yh2_3z4⟩) (by assumption) ?rh2_3z4
        case yh2_3z4 => (intro w hSw; (try dsimp only at hSw); go_simp; try with_reducible rfl)
        simp only [Act.put, List.getElem_toArray, List.getElem_cons_succ, List.getElem_cons_zero, List.setIfInBounds_toArray, List.set_cons_zero, List.set_cons_succ]
        refine wpAnyH_take (i := 4) (v := ?vh2_4z5) rfl (by kernel_rfl) (by kernel_rfl) (by kernel_rfl) (fun _ _ _ h => h) (Or.inl ⟨by rfl, ?yh2_4z5⟩) (by assumption) ?rh2_4z5
        case yh2_4z5 => (intro w hSw; (try dsimp only at hSw); go_simp; try with_reducible rfl)
        simp only [Act.put, List.getElem_toArray, List.getElem_cons_succ, List.getElem_cons_zero, List.setIfInBounds_toArray, List.set_cons_zero, List.set_cons_succ]
        refine wpAnyH_take (i := 5) (v := ?vh2_5z6) rfl (by kernel_rfl) (by kernel_rfl) (by kernel_rfl) (fun _ _ _ h => h) (Or.inl ⟨by rfl, ?yh2_5z6⟩) (by assumption) ?rh2_5z6
        case yh2_5z6 => (intro w hSw; (try dsimp only at hSw); go_simp; try with_reducible rfl)
        simp only [Act.put, List.getElem_toArray, List.getElem_cons_succ, List.getElem_cons_zero, List.setIfInBounds_toArray, List.set_cons_zero, List.set_cons_succ]
        refine wpAnyH_take (i := 6) (v := ?vh2_6z7) rfl (by kernel_rfl) (by kernel_rfl) (by kernel_rfl) (fun _ _ _ h => h) (Or.inl ⟨by rfl, ?yh2_6z7⟩) (by assumption) ?rh2_6z7
        case yh2_6z7 => (intro w hSw; (try dsimp only at hSw); go_simp; try with_reducible rfl)
        simp only [Act.put, List.getElem_toArray, List.getElem_cons_succ, List.getElem_cons_zero, List.setIfInBounds_toArray, List.set_cons_zero, List.set_cons_succ]
        refine wpAnyH_take (i := 7) (v := ?vh2_7z8) rfl (by kernel_rfl) (by kernel_rfl) (by kernel_rfl) (fun _ _ _ h => h) (Or.inl ⟨by rfl, ?yh2_7z8⟩) (by assumption) ?rh2_7z8
        case yh2_7z8 => (intro w hSw; (try dsimp only at hSw); go_simp; try with_reducible rfl)
        simp only [Act.put, List.getElem_toArray, List.getElem_cons_succ, List.getElem_cons_zero, List.setIfInBounds_toArray, List.set_cons_zero, List.set_cons_succ]
        refine wpAnyH_take (i := 8) (v := ?vh2_8z9) rfl (by kernel_rfl) (by kernel_rfl) (by kernel_rfl) (fun _ _ _ h => h) (Or.inl ⟨by rfl, ?yh2_8z9⟩) (by assumption) ?rh2_8z9
        case yh2_8z9 => (intro w hSw; (try dsimp only at hSw); go_simp; try with_reducible rfl)
        simp only [Act.put, List.getElem_toArray, List.getElem_cons_succ, List.getElem_cons_zero, List.setIfInBounds_toArray, List.set_cons_zero, List.set_cons_succ]
        refine wpAnyH_take (i := 9) (v := ?vh2_9z10) rfl (by kernel_rfl) (by kernel_rfl) (by kernel_rfl) (fun _ _ _ h => h) (Or.inl ⟨by rfl, ?yh2_9z10⟩) (by assumption) ?rh2_9z10
        case yh2_9z10 => (intro w hSw; have h0 := hSw.out.cell m4 (by simp); clear hSw; go_simp; try with_reducible rfl)
        simp only [Act.put, List.getElem_toArray, List.getElem_cons_succ, List.getElem_cons_zero, List.setIfInBounds_toArray, List.set_cons_zero, List.set_cons_succ]
        refine wpAnyH_take (i := 10) (v := ?vh2_10z11) rfl (by kernel_rfl) (by kernel_rfl) (by kernel_rfl) (fun _ _ _ h => h) (Or.inl ⟨by rfl, ?yh2_10z11⟩) (by assumption) ?rh2_10z11
        case yh2_10z11 => (intro w hSw; (try dsimp only at hSw); go_simp; try with_reducible rfl)
        simp only [Act.put, List.getElem_toArray, List.getElem_cons_succ, List.getElem_cons_zero, List.setIfInBounds_toArray, List.set_cons_zero, List.set_cons_succ]
        refine wpAnyH_take (i := 11) (v := ?vh2_11z12) rfl (by kernel_rfl) (by kernel_rfl) (by kernel_rfl) (fun _ _ _ h => h) (Or.inl ⟨by rfl, ?yh2_11z12⟩) (by assumption) ?rh2_11z12
        case yh2_11z12 => (intro w hSw; (try dsimp only at hSw); go_simp; try with_reducible rfl)
        simp only [Act.put, List.getElem_toArray, List.getElem_cons_succ, List.getElem_cons_zero, List.setIfInBounds_toArray, List.set_cons_zero, List.set_cons_succ]
        refine wpAnyH_take (i := 12) (v := ?vh2_12z13) rfl (by kernel_rfl) (by kernel_rfl) (by kernel_rfl) (fun _ _ _ h => h) (Or.inl ⟨by rfl, ?yh2_12z13⟩) (by assumption) ?rh2_12z13
        case yh2_12z13 => (intro w hSw; (try dsimp only at hSw); go_simp; try with_reducible rfl)
        simp only [Act.put, List.getElem_toArray, List.getElem_cons_succ, List.getElem_cons_zero, List.setIfInBounds_toArray, List.set_cons_zero, List.set_cons_succ]
        refine wpAnyH_take (i := 13) (v := undef) rfl (by kernel_rfl) (by kernel_rfl) (by kernel_rfl) (fun _ _ _ h => h) (Or.inr ⟨by rfl, rfl⟩) (by assumption) ?_
        simp only [Act.put, List.getElem_toArray, List.getElem_cons_succ, List.getElem_cons_zero, List.setIfInBounds_toArray, List.set_cons_zero, List.set_cons_succ]
        refine wpAnyH_take (i := 14) (v := undef) rfl (by kernel_rfl) (by kernel_rfl) (by kernel_rfl) (fun _ _ _ h => h) (Or.inr ⟨by rfl, rfl⟩) (by assumption) ?_
        simp only [Act.put, List.getElem_toArray, List.getElem_cons_succ, List.getElem_cons_zero, List.setIfInBounds_toArray, List.set_cons_zero, List.set_cons_succ]
        refine wpAnyH_take (i := 15) (v := undef) rfl (by kernel_rfl) (by kernel_rfl) (by kernel_rfl) (fun _ _ _ h => h) (Or.inr ⟨by rfl, rfl⟩) (by assumption) ?_
        simp only [Act.put, List.getElem_toArray, List.getElem_cons_succ, List.getElem_cons_zero, List.setIfInBounds_toArray, List.set_cons_zero, List.set_cons_succ]
        refine wpAnyH_take (i := 16) (v := undef) rfl (by kernel_rfl) (by kernel_rfl) (by kernel_rfl) (fun _ _ _ h => h) (Or.inr ⟨by rfl, rfl⟩) (by assumption) ?_
        simp only [Act.put, List.getElem_toArray, List.getElem_cons_succ, List.getElem_cons_zero, List.setIfInBounds_toArray, List.set_cons_zero, List.set_cons_succ]
        refine wpAnyH_take (i := 17) (v := undef) rfl (by kernel_rfl) (by kernel_rfl) (by kernel_rfl) (fun _ _ _ h => h) (Or.inr ⟨by rfl, rfl⟩) (by assumption) ?_
        simp only [Act.put, List.getElem_toArray, List.getElem_cons_succ, List.getElem_cons_zero, List.setIfInBounds_toArray, List.set_cons_zero, List.set_cons_succ]
        refine wpAnyH_take (i := 18) (v := undef) rfl (by kernel_rfl) (by kernel_rfl) (by kernel_rfl) (fun _ _ _ h => h) (Or.inr ⟨by rfl, rfl⟩) (by assumption) ?_
        simp only [Act.put, List.getElem_toArray, List.getElem_cons_succ, List.getElem_cons_zero, List.setIfInBounds_toArray, List.set_cons_zero, List.set_cons_succ]
        refine wpAnyH_take (i := 19) (v := undef) rfl (by kernel_rfl) (by kernel_rfl) (by kernel_rfl) (fun _ _ _ h => h) (Or.inr ⟨by rfl, rfl⟩) (by assumption) ?_
        simp only [Act.put, List.getElem_toArray, List.getElem_cons_succ, List.getElem_cons_zero, List.setIfInBounds_toArray, List.set_cons_zero, List.set_cons_succ]
        refine wpAnyH_take (i := 20) (v := undef) rfl (by kernel_rfl) (by kernel_rfl) (by kernel_rfl) (fun _ _ _ h => h) (Or.inr ⟨by rfl, rfl⟩) (by assumption) ?_
        simp only [Act.put, List.getElem_toArray, List.getElem_cons_succ, List.getElem_cons_zero, List.setIfInBounds_toArray, List.set_cons_zero, List.set_cons_succ]
        refine wpAnyH_take (i := 21) (v := undef) rfl (by kernel_rfl) (by kernel_rfl) (by kernel_rfl) (fun _ _ _ h => h) (Or.inr ⟨by rfl, rfl⟩) (by assumption) ?_
        simp only [Act.put, List.getElem_toArray, List.getElem_cons_succ, List.getElem_cons_zero, List.setIfInBounds_toArray, List.set_cons_zero, List.set_cons_succ]
        refine wpAnyH_take (i := 22) (v := ?vh2_22z14) rfl (by kernel_rfl) (by kernel_rfl) (by kernel_rfl) (fun _ _ _ h => h) (Or.inl ⟨by rfl, ?yh2_22z14⟩) (by assumption) ?rh2_22z14
        case yh2_22z14 => (intro w hSw; (try dsimp only at hSw); go_simp; try with_reducible rfl)
        simp only [Act.put, List.getElem_toArray, List.getElem_cons_succ, List.getElem_cons_zero, List.setIfInBounds_toArray, List.set_cons_zero, List.set_cons_succ]
        refine wpAnyH_take (i := 23) (v := ?vh2_23z15) rfl (by kernel_rfl) (by kernel_rfl) (by kernel_rfl) (fun _ _ _ h => h) (Or.inl ⟨by rfl, ?yh2_23z15⟩) (by assumption) ?rh2_23z15
        case yh2_23z15 => (intro w hSw; (try dsimp only at hSw); go_simp; try with_reducible rfl)
        simp only [Act.put, List.getElem_toArray, List.getElem_cons_succ, List.getElem_cons_zero, List.setIfInBounds_toArray, List.set_cons_zero, List.set_cons_succ]
        refine wpAnyH_done (by kernel_rfl) ?_ _
        go_wp2_with fail
        go_meet
        exact ⟨by rw [hg], Lib.hid (by first | exact grown_reflX _ _ | exact grown_drewT (grown_reflX _ _) | exact grown_drewNT (grown_reflX _ _) _)⟩
      · have n1 : ((o1 : Int) == 0) = false := nat_eqf e1
        by_cases e2 : o = o1
        · have hg : g4 = true := by rw [HG.out.2.2.1]; simp [e2]
          subst e2
          clear HG
          refine wp_region_held_drew (S := (fun W => Hid (wc.grownBy W none))) (by kernel_rfl) (Lib.hid (grown_drewT (grown_reflX _ _))) (fun hHeld => ?_)
          refine wpAnyH_take (i := 0) (v := ?vh3_0z1) rfl (by kernel_rfl) (by kernel_rfl) (by kernel_rfl) (fun _ _ _ h => h) (Or.inl ⟨by rfl, ?yh3_0z1⟩) (by assumption) ?rh3_0z1
          case yh3_0z1 => (intro w hSw; (try dsimp only at hSw); go_simp; try with_reducible rfl)
          simp only [Act.put, List.getElem_toArray, List.getElem_cons_zero, List.size_toArray, List.length_cons, List.length_nil, Nat.reduceAdd, Array.replicate, List.replicate, List.setIfInBounds_toArray, List.set_cons_zero, List.set_cons_succ]
          refine wpAnyH_take (i := 1) (v := ?vh3_1z2) rfl (by kernel_rfl) (by kernel_rfl) (by kernel_rfl) (fun _ _ _ h => h) (Or.inl ⟨by rfl, ?yh3_1z2⟩) (by assumption) ?rh3_1z2
          case yh3_1z2 => (intro w hSw; (try dsimp only at hSw); go_simp; try with_reducible rfl)
          simp only [Act.put, List.getElem_toArray, List.getElem_cons_succ, List.getElem_cons_zero, List.setIfInBounds_toArray, List.set_cons_zero, List.set_cons_succ]
          refine wpAnyH_take (i := 2) (v := ?vh3_2z3) rfl (by kernel_rfl) (by kernel_rfl) (by kernel_rfl) (fun _ _ _ h => h) (Or.inl ⟨by rfl, ?yh3_2z3⟩) (by assumption) ?rh3_2z3
          case yh3_2z3 => (intro w hSw; have h0 := hSw.out.cell m3 (by simp); clear hSw; go_simp; try with_reducible rfl)
          simp only [Act.put, List.getElem_toArray, List.getElem_cons_succ, List.getElem_cons_zero, List.setIfInBounds_toArray, List.set_cons_zero, List.set_cons_succ]
          refine wpAnyH_take (i := 3) (v := ?vh3_3z4) rfl (by kernel_rfl) (by kernel_rfl) (by kernel_rfl) (fun _ _ _ h => h) (Or.inl ⟨by rfl, ?yh3_3z4⟩) (by assumption) ?rh3_3z4
          case yh3_3z4 => (intro w hSw; (try dsimp only at hSw); go_simp; try with_reducible rfl)
          simp only [Act.put, List.getElem_toArray, List.getElem_cons_succ, List.getElem_cons_zero, List.setIfInBounds_toArray, List.set_cons_zero, List.set_cons_succ]
          refine wpAnyH_take (i := 4) (v := ?vh3_4z5) rfl (by kernel_rfl) (by kernel_rfl) (by kernel_rfl) (fun _ _ _ h => h) (Or.inl ⟨by rfl, ?yh3_4z5⟩) (by assumption) ?rh3_4z5
          case yh3_4z5 => (intro w hSw; (try dsimp only at hSw); go_simp; try with_reducible rfl)
          simp only [Act.put, List.getElem_toArray, List.getElem_cons_succ, List.getElem_cons_zero, List.setIfInBounds_toArray, List.set_cons_zero, List.set_cons_succ]
          refine wpAnyH_take (i := 5) (v := ?vh3_5z6) rfl (by kernel_rfl) (by kernel_rfl) (by kernel_rfl) (fun _ _ _ h => h) (Or.inl ⟨by rfl, ?yh3_5z6⟩) (by assumption) ?rh3_5z6
          case yh3_5z6 => (intro w hSw; (try dsimp only at hSw); go_simp; try with_reducible rfl)
          simp only [Act.put, List.getElem_toArray, List.getElem_cons_succ, List.getElem_cons_zero, List.setIfInBounds_toArray, List.set_cons_zero, List.set_cons_succ]
          refine wpAnyH_take (i := 6) (v := ?vh3_6z7) rfl (by kernel_rfl) (by kernel_rfl) (by kernel_rfl) (fun _ _ _ h => h) (Or.inl ⟨by rfl, ?yh3_6z7⟩) (by assumption) ?rh3_6z7
          case yh3_6z7 => (intro w hSw; (try dsimp only at hSw); go_simp; try with_reducible rfl)
          simp only [Act.put, List.getElem_toArray, List.getElem_cons_succ, List.getElem_cons_zero, List.setIfInBounds_toArray, List.set_cons_zero, List.set_cons_succ]
          refine wpAnyH_take (i := 7) (v := ?vh3_7z8) rfl (by kernel_rfl) (by kernel_rfl) (by kernel_rfl) (fun _ _ _ h => h) (Or.inl ⟨by rfl, ?yh3_7z8⟩) (by assumption) ?rh3_7z8
          case yh3_7z8 => (intro w hSw; (try dsimp only at hSw); go_simp; try with_reducible rfl)
          simp only [Act.put, List.getElem_toArray, List.getElem_cons_succ, List.getElem_cons_zero, List.setIfInBounds_toArray, List.set_cons_zero, List.set_cons_succ]
          refine wpAnyH_take (i := 8) (v := ?vh3_8z9) rfl (by kernel_rfl) (by kernel_rfl) (by kernel_rfl) (fun _ _ _ h => h) (Or.inl ⟨by rfl, ?yh3_8z9⟩) (by assumption) ?rh3_8z9
          case yh3_8z9 => (intro w hSw; (try dsimp only at hSw); go_simp; try with_reducible rfl)
          simp only [Act.put, List.getElem_toArray, List.getElem_cons_succ, List.getElem_cons_zero, List.setIfInBounds_toArray, List.set_cons_zero, List.set_cons_succ]
          refine wpAnyH_take (i := 9) (v := ?vh3_9z10) rfl (by kernel_rfl) (by kernel_rfl) (by kernel_rfl) (fun _ _ _ h => h) (Or.inl ⟨by rfl, ?yh3_9z10⟩) (by assumption) ?rh3_9z10
          case yh3_9z10 => (intro w hSw; have h0 := hSw.out.cell m4 (by simp); clear hSw; go_simp; try with_reducible rfl)
          simp only [Act.put, List.getElem_toArray, List.getElem_cons_succ, List.getElem_cons_zero, List.setIfInBounds_toArray, List.set_cons_zero, List.set_cons_succ]
          refine wpAnyH_take (i := 10) (v := ?vh3_10z11) rfl (by kernel_rfl) (by kernel_rfl) (by kernel_rfl) (fun _ _ _ h => h) (Or.inl ⟨by rfl, ?yh3_10z11⟩) (by assumption) ?rh3_10z11
          case yh3_10z11 => (intro w hSw; (try dsimp only at hSw); go_simp; try with_reducible rfl)
          simp only [Act.put, List.getElem_toArray, List.getElem_cons_succ, List.getElem_cons_zero, List.setIfInBounds_toArray, List.set_cons_zero, List.set_cons_succ]
          refine wpAnyH_take (i := 11) (v := ?vh3_11z12) rfl (by kernel_rfl) (by kernel_rfl) (by kernel_rfl) (fun _ _ _ h => h) (Or.inl ⟨by rfl, ?yh3_11z12⟩) (by assumption) ?rh3_11z12
          case yh3_11z12 => (intro w hSw; (try dsimp only at hSw); go_simp; try with_reducible rfl)
          simp only [Act.put, List.getElem_toArray, List.getElem_cons_succ, List.getElem_cons_zero, List.setIfInBounds_toArray, List.set_cons_zero, List.set_cons_succ]
          refine wpAnyH_take (i := 12) (v := ?vh3_12z13) rfl (by kernel_rfl) (by kernel_rfl) (by kernel_rfl) (fun _ _ _ h => h) (Or.inl ⟨by rfl, ?yh3_12z13⟩) (by assumption) ?rh3_12z13
          case yh3_12z13 => (intro w hSw; (try dsimp only at hSw); go_simp; try with_reducible rfl)
          simp only [Act.put, List.getElem_toArray, List.getElem_cons_succ, List.getElem_cons_zero, List.setIfInBounds_toArray, List.set_cons_zero, List.set_cons_succ]
          refine wpAnyH_take (i := 13) (v := ?vh3_13z14) rfl (by kernel_rfl) (by kernel_rfl) (by kernel_rfl) (fun _ _ _ h => h) (Or.inl ⟨by rfl, ?yh3_13z14⟩) (by assumption) ?rh3_13z14
          case yh3_13z14 => (intro w hSw; (try dsimp only at hSw); go_simp; try with_reducible rfl)
          simp only [Act.put, List.getElem_toArray, List.getElem_cons_succ, List.getElem_cons_zero, List.setIfInBounds_toArray, List.set_cons_zero, List.set_cons_succ]
          refine wpAnyH_take (i := 14) (v := ?vh3_14z15) rfl (by kernel_rfl) (by kernel_rfl) (by kernel_rfl) (fun _ _ _ h => h) (Or.inl ⟨by rfl, ?yh3_14z15⟩) (by assumption) ?rh3_14z15
          case yh3_14z15 => (intro w hSw; (try dsimp only at hSw); go_simp; try with_reducible rfl)
          simp only [Act.put, List.getElem_toArray, List.getElem_cons_succ, List.getElem_cons_zero, List.setIfInBounds_toArray, List.set_cons_zero, List.set_cons_succ]
          refine wpAnyH_take (i := 15) (v := ?vh3_15z16) rfl (by kernel_rfl) (by kernel_rfl) (by kernel_rfl) (fun _ _ _ h => h) (Or.inl ⟨by rfl, ?yh3_15z16⟩) (by assumption) ?rh3_15z16
          case yh3_15z16 => (intro w hSw; have h0 := hSw.out.cell m3 (by simp); clear hSw; go_simp; try with_reducible rfl)
          simp only [Act.put, List.getElem_toArray, List.getElem_cons_succ, List.getElem_cons_zero, List.setIfInBounds_toArray, List.set_cons_zero, List.set_cons_succ]
          refine wpAnyH_take (i := 16) (v := ?vh3_16z17) rfl (by kernel_rfl) (by kernel_rfl) (by kernel_rfl) (fun _ _ _ h => h) (Or.inl ⟨by rfl, ?yh3_16z17⟩) (by assumption) ?rh3_16z17
          case yh3_16z17 => (intro w hSw; (try dsimp only at hSw); go_simp; try with_reducible rfl)
          simp only [Act.put, List.getElem_toArray, List.getElem_cons_succ, List.getElem_cons_zero, List.setIfInBounds_toArray, List.set_cons_zero, List.set_cons_succ]
          refine wpAnyH_take (i := 17) (v := ?vh3_17z18) rfl (by kernel_rfl) (by kernel_rfl) (by kernel_rfl) (fun _ _ _ h => h) (Or.inl ⟨by rfl, ?yh3_17z18⟩) (by assumption) ?rh3_17z18
          case yh3_17z18 => (intro w hSw; (try dsimp only at hSw); go_simp; try with_reducible rfl)
          simp only [Act.put, List.getElem_toArray, List.getElem_cons_succ, List.getElem_cons_zero, List.setIfInBounds_toArray, List.set_cons_zero, List.set_cons_succ]
          refine wpAnyH_take (i := 18) (v := ?vh3_18z19) rfl (by kernel_rfl) (by kernel_rfl) (by kernel_rfl) (fun _ _ _ h => h) (Or.inl ⟨by rfl, ?yh3_18z19⟩) (by assumption) ?rh3_18z19
          case yh3_18z19 => (intro w hSw; (try dsimp only at hSw); go_simp; try with_reducible rfl)
          simp only [Act.put, List.getElem_toArray, List.getElem_cons_succ, List.getElem_cons_zero, List.setIfInBounds_toArray, List.set_cons_zero, List.set_cons_succ]
          refine wpAnyH_take (i := 19) (v := ?vh3_19z20) rfl (by kernel_rfl) (by kernel_rfl) (by kernel_rfl) (fun _ _ _ h => h) (Or.inl ⟨by rfl, ?yh3_19z20⟩) (by assumption) ?rh3_19z20
          case yh3_19z20 => (intro w hSw; (try dsimp only at hSw); go_simp; try with_reducible rfl)
          simp only [Act.put, List.getElem_toArray, List.getElem_cons_succ, List.getElem_cons_zero, List.setIfInBounds_toArray, List.set_cons_zero, List.set_cons_succ]
          refine wpAnyH_take (i := 20) (v := ?vh3_20z21) rfl (by kernel_rfl) (by kernel_rfl) (by kernel_rfl) (fun _ _ _ h => h) (Or.inl ⟨by rfl, ?yh3_20z21⟩) (by assumption) ?rh3_20z21
          case yh3_20z21 => (intro w hSw; have h0 := hSw.out.cell m4 (by simp); clear hSw; go_simp; try with_reducible rfl)
          simp only [Act.put, List.getElem_toArray, List.getElem_cons_succ, List.getElem_cons_zero, List.setIfInBounds_toArray, List.set_cons_zero, List.set_cons_succ]
          refine wpAnyH_take (i := 21) (v := ?vh3_21z22) rfl (by kernel_rfl) (by kernel_rfl) (by kernel_rfl) (fun _ _ _ h => h) (Or.inl ⟨by rfl, ?yh3_21z22⟩) (by assumption) ?rh3_21z22
          case yh3_21z22 => (intro w hSw; (try dsimp only at hSw); go_simp; try with_reducible rfl)
          simp only [Act.put, List.getElem_toArray, List.getElem_cons_succ, List.getElem_cons_zero, List.setIfInBounds_toArray, List.set_cons_zero, List.set_cons_succ]
          refine wpAnyH_take (i := 22) (v := ?vh3_22z23) rfl (by kernel_rfl) (by kernel_rfl) (by kernel_rfl) (fun _ _ _ h => h) (Or.inl ⟨by rfl, ?yh3_22z23⟩) (by assumption) ?rh3_22z23
          case yh3_22z23 => (intro w hSw; (try dsimp only at hSw); go_simp; try with_reducible rfl)
          simp only [Act.put, List.getElem_toArray, List.getElem_cons_succ, List.getElem_cons_zero, List.setIfInBounds_toArray, List.set_cons_zero, List.set_cons_succ]
          refine wpAnyH_take (i := 23) (v := ?vh3_23z24) rfl (by kernel_rfl) (by kernel_rfl) (by kernel_rfl) (fun _ _ _ h => h) (Or.inl ⟨by rfl, ?yh3_23z24⟩) (by assumption) ?rh3_23z24
          case yh3_23z24 => (intro w hSw; (try dsimp only at hSw); go_simp; try with_reducible rfl)
          simp only [Act.put, List.getElem_toArray, List.getElem_cons_succ, List.getElem_cons_zero, List.setIfInBounds_toArray, List.set_cons_zero, List.set_cons_succ]
          refine wpAnyH_done (by kernel_rfl) ?_ _
          go_wp2_with fail
          go_meet
          exact ⟨by rw [hg], Lib.hid (by first | exact grown_reflX _ _ | exact grown_drewT (grown_reflX _ _) | exact grown_drewNT (grown_reflX _ _) _)⟩
        · have hg : g4 = false := by rw [HG.out.2.2.1]; simp [e0, e1, e2]
          have n2 : ((o : Int) == o1) = false := by rw [beq_eq_false_iff_ne]; omega
          clear HG
          refine wp_region_held_drew (S := (fun W => Hid (wc.grownBy W none))) (by kernel_rfl) (Lib.hid (grown_drewT (grown_reflX _ _))) (fun hHeld => ?_)
          refine wpAnyH_take (i := 0) (v := ?vh4_0z1) rfl (by kernel_rfl) (by kernel_rfl) (by kernel_rfl) (fun _ _ _ h => h) (Or.inl ⟨by rfl, ?yh4_0z1⟩) (by assumption) ?rh4_0z1
          case yh4_0z1 => (intro w hSw; (try dsimp only at hSw); go_simp; try with_reducible rfl)
          simp only [Act.put, List.getElem_toArray, List.getElem_cons_zero, List.size_toArray, List.length_cons, List.length_nil, Nat.reduceAdd, Array.replicate, List.replicate, List.setIfInBounds_toArray, List.set_cons_zero, List.set_cons_succ]
          refine wpAnyH_take (i := 1) (v := ?vh4_1z2) rfl (by kernel_rfl) (by kernel_rfl) (by kernel_rfl) (fun _ _ _ h => h) (Or.inl ⟨by rfl, ?yh4_1z2⟩) (by assumption) ?rh4_1z2
          case yh4_1z2 => (intro w hSw; (try dsimp only at hSw); go_simp; try with_reducible rfl)
          simp only [Act.put, List.getElem_toArray, List.getElem_cons_succ, List.getElem_cons_zero, List.setIfInBounds_toArray, List.set_cons_zero, List.set_cons_succ]
          refine wpAnyH_take (i := 2) (v := ?vh4_2z3) rfl (by kernel_rfl) (by kernel_rfl) (by kernel_rfl) (fun _ _ _ h => h) (Or.inl ⟨by rfl, ?yh4_2z3⟩) (by assumption) ?rh4_2z3
          case yh4_2z3 => (intro w hSw; have h0 := hSw.out.cell m3 (by simp); clear hSw; go_simp; try with_reducible rfl)
          simp only [Act.put, List.getElem_toArray, List.getElem_cons_succ, List.getElem_cons_zero, List.setIfInBounds_toArray, List.set_cons_zero, List.set_cons_succ]
          refine wpAnyH_take (i := 3) (v := ?vh4_3z4) rfl (by kernel_rfl) (by kernel_rfl) (by kernel_rfl) (fun _ _ _ h => h) (Or.inl ⟨by rfl, ?yh4_3z4⟩) (by assumption) ?rh4_3z4
          case yh4_3z4 => (intro w hSw; (try dsimp only at hSw); go_simp; try with_reducible rfl)
          simp only [Act.put, List.getElem_toArray, List.getElem_cons_succ, List.getElem_cons_zero, List.setIfInBounds_toArray, List.set_cons_zero, List.set_cons_succ]
          refine wpAnyH_take (i := 4) (v := ?vh4_4z5) rfl (by kernel_rfl) (by kernel_rfl) (by kernel_rfl) (fun _ _ _ h => h) (Or.inl ⟨by rfl, ?yh4_4z5⟩) (by assumption) ?rh4_4z5
          case yh4_4z5 => (intro w hSw; (try dsimp only at hSw); go_simp; try with_reducible rfl)
          simp only [Act.put, List.getElem_toArray, List.getElem_cons_succ, List.getElem_cons_zero, List.setIfInBounds_toArray, List.set_cons_zero, List.set_cons_succ]
          refine wpAnyH_take (i := 5) (v := ?vh4_5z6) rfl (by kernel_rfl) (by kernel_rfl) (by kernel_rfl) (fun _ _ _ h => h) (Or.inl ⟨by rfl, ?yh4_5z6⟩) (by assumption) ?rh4_5z6
          case yh4_5z6 => (intro w hSw; (try dsimp only at hSw); go_simp; try with_reducible rfl)
          simp only [Act.put, List.getElem_toArray, List.getElem_cons_succ, List.getElem_cons_zero, List.setIfInBounds_toArray, List.set_cons_zero, List.set_cons_succ]
          refine wpAnyH_take (i := 6) (v := ?vh4_6z7) rfl (by kernel_rfl) (by kernel_rfl) (by kernel_rfl) (fun _ _ _ h => h) (Or.inl ⟨by rfl, ?yh4_6z7⟩) (by assumption) ?rh4_6z7
          case yh4_6z7 => (intro w hSw; (try dsimp only at hSw); go_simp; try with_reducible rfl)
          simp only [Act.put, List.getElem_toArray, List.getElem_cons_succ, List.getElem_cons_zero, List.setIfInBounds_toArray, List.set_cons_zero, List.set_cons_succ]
          refine wpAnyH_take (i := 7) (v := ?vh4_7z8) rfl (by kernel_rfl) (by kernel_rfl) (by kernel_rfl) (fun _ _ _ h => h) (Or.inl ⟨by rfl, ?yh4_7z8⟩) (by assumption) ?rh4_7z8
          case yh4_7z8 => (intro w hSw; (try dsimp only at hSw); go_simp; try with_reducible rfl)
          simp only [Act.put, List.getElem_toArray, List.getElem_cons_succ, List.getElem_cons_zero, List.setIfInBounds_toArray, List.set_cons_zero, List.set_cons_succ]
          refine wpAnyH_take (i := 8) (v := ?vh4_8z9) rfl (by kernel_rfl) (by kernel_rfl) (by kernel_rfl) (fun _ _ _ h => h) (Or.inl ⟨by rfl, ?yh4_8z9⟩) (by assumption) ?rh4_8z9
          case yh4_8z9 => (intro w hSw; (try dsimp only at hSw); go_simp; try with_reducible rfl)
          simp only [Act.put, List.getElem_toArray, List.getElem_cons_succ, List.getElem_cons_zero, List.setIfInBounds_toArray, List.set_cons_zero, List.set_cons_succ]
          refine wpAnyH_take (i := 9) (v := ?vh4_9z10) rfl (by kernel_rfl) (by kernel_rfl) (by kernel_rfl) (fun _ _ _ h => h) (Or.inl ⟨by rfl, ?yh4_9z10⟩) (by assumption) ?rh4_9z10
          case yh4_9z10 => (intro w hSw; have h0 := hSw.out.cell m4 (by simp); clear hSw; go_simp; try with_reducible rfl)
          simp only [Act.put, List.getElem_toArray, List.getElem_cons_succ, List.getElem_cons_zero, List.setIfInBounds_toArray, List.set_cons_zero, List.set_cons_succ]
          refine wpAnyH_take (i := 10) (v := ?vh4_10z11) rfl (by kernel_rfl) (by kernel_rfl) (by kernel_rfl) (fun _ _ _ h => h) (Or.inl ⟨by rfl, ?yh4_10z11⟩) (by assumption) ?rh4_10z11
          case yh4_10z11 => (intro w hSw; (try dsimp only at hSw); go_simp; try with_reducible rfl)
          simp only [Act.put, List.getElem_toArray, List.getElem_cons_succ, List.getElem_cons_zero, List.setIfInBounds_toArray, List.set_cons_zero, List.set_cons_succ]
          refine wpAnyH_take (i := 11) (v := ?vh4_11z12) rfl (by kernel_rfl) (by kernel_rfl) (by kernel_rfl) (fun _ _ _ h => h) (Or.inl ⟨by rfl, ?yh4_11z12⟩) (by assumption) ?rh4_11z12
          case yh4_11z12 => (intro w hSw; (try dsimp only at hSw); go_simp; try with_reducible rfl)
          simp only [Act.put, List.getElem_toArray, List.getElem_cons_succ, List.getElem_cons_zero, List.setIfInBounds_toArray, List.set_cons_zero, List.set_cons_succ]
          refine wpAnyH_take (i := 12) (v := ?vh4_12z13) rfl (by kernel_rfl) (by kernel_rfl) (by kernel_rfl) (fun _ _ _ h => h) (Or.inl ⟨by rfl, ?yh4_12z13⟩) (by assumption) ?rh4_12z13
          case yh4_12z13 => (intro w hSw; (try dsimp only at hSw); go_simp; try with_reducible rfl)
          simp only [Act.put, List.getElem_toArray, List.getElem_cons_succ, List.getElem_cons_zero, List.setIfInBounds_toArray, List.set_cons_zero, List.set_cons_succ]
          refine wpAnyH_take (i := 13) (v := ?vh4_13z14) rfl (by kernel_rfl) (by kernel_rfl) (by kernel_rfl) (fun _ _ _ h => h) (Or.inl ⟨by rfl, ?yh4_13z14⟩) (by assumption) ?rh4_13z14
          case yh4_13z14 => (intro w hSw; (try dsimp only at hSw); go_simp; try with_reducible rfl)
          simp only [Act.put, List.getElem_toArray, List.getElem_cons_succ, List.getElem_cons_zero, List.setIfInBounds_toArray, List.set_cons_zero, List.set_cons_succ]
          refine wpAnyH_take (i := 14) (v := ?vh4_14z15) rfl (by kernel_rfl) (by kernel_rfl) (by kernel_rfl) (fun _ _ _ h => h) (Or.inl ⟨by rfl, ?yh4_14z15⟩) (by assumption) ?rh4_14z15
          case yh4_14z15 => (intro w hSw; (try dsimp only at hSw); go_simp; try with_reducible rfl)
          simp only [Act.put, List.getElem_toArray, List.getElem_cons_succ, List.getElem_cons_zero, List.setIfInBounds_toArray, List.set_cons_zero, List.set_cons_succ]
          refine wpAnyH_take (i := 15) (v := ?vh4_15z16) rfl (by kernel_rfl) (by kernel_rfl) (by kernel_rfl) (fun _ _ _ h => h) (Or.inl ⟨by rfl, ?yh4_15z16⟩) (by assumption) ?rh4_15z16
          case yh4_15z16 => (intro w hSw; have h0 := hSw.out.cell m3 (by simp); clear hSw; go_simp; try with_reducible rfl)
          simp only [Act.put, List.getElem_toArray, List.getElem_cons_succ, List.getElem_cons_zero, List.setIfInBounds_toArray, List.set_cons_zero, List.set_cons_succ]
          refine wpAnyH_take (i := 16) (v := ?vh4_16z17) rfl (by kernel_rfl) (by kernel_rfl) (by kernel_rfl) (fun _ _ _ h => h) (Or.inl ⟨by rfl, ?yh4_16z17⟩) (by assumption) ?rh4_16z17
          case yh4_16z17 => (intro w hSw; (try dsimp only at hSw); go_simp; try with_reducible rfl)
          simp only [Act.put, List.getElem_toArray, List.getElem_cons_succ, List.getElem_cons_zero, List.setIfInBounds_toArray, List.set_cons_zero, List.set_cons_succ]
          refine wpAnyH_take (i := 17) (v := ?vh4_17z18) rfl (by kernel_rfl) (by kernel_rfl) (by kernel_rfl) (fun _ _ _ h => h) (Or.inl ⟨by rfl, ?yh4_17z18⟩) (by assumption) ?rh4_17z18
          case yh4_17z18 => (intro w hSw; (try dsimp only at hSw); go_simp; try with_reducible rfl)
          simp only [Act.put, List.getElem_toArray, List.getElem_cons_succ, List.getElem_cons_zero, List.setIfInBounds_toArray, List.set_cons_zero, List.set_cons_succ]
          refine wpAnyH_take (i := 18) (v := ?vh4_18z19) rfl (by kernel_rfl) (by kernel_rfl) (by kernel_rfl) (fun _ _ _ h => h) (Or.inl ⟨by rfl, ?yh4_18z19⟩) (by assumption) ?rh4_18z19
          case yh4_18z19 => (intro w hSw; (try dsimp only at hSw); go_simp; try with_reducible rfl)
          simp only [Act.put, List.getElem_toArray, List.getElem_cons_succ, List.getElem_cons_zero, List.setIfInBounds_toArray, List.set_cons_zero, List.set_cons_succ]
          refine wpAnyH_take (i := 19) (v := ?vh4_19z20) rfl (by kernel_rfl) (by kernel_rfl) (by kernel_rfl) (fun _ _ _ h => h) (Or.inl ⟨by rfl, ?yh4_19z20⟩) (by assumption) ?rh4_19z20
          case yh4_19z20 => (intro w hSw; (try dsimp only at hSw); go_simp; try with_reducible rfl)
          simp only [Act.put, List.getElem_toArray, List.getElem_cons_succ, List.getElem_cons_zero, List.setIfInBounds_toArray, List.set_cons_zero, List.set_cons_succ]
          refine wpAnyH_take (i := 20) (v := ?vh4_20z21) rfl (by kernel_rfl) (by kernel_rfl) (by kernel_rfl) (fun _ _ _ h => h) (Or.inl ⟨by rfl, ?yh4_20z21⟩) (by assumption) ?rh4_20z21
          case yh4_20z21 => (intro w hSw; have h0 := hSw.out.cell m4 (by simp); clear hSw; go_simp; try with_reducible rfl)
          simp only [Act.put, List.getElem_toArray, List.getElem_cons_succ, List.getElem_cons_zero, List.setIfInBounds_toArray, List.set_cons_zero, List.set_cons_succ]
          refine wpAnyH_take (i := 21) (v := ?vh4_21z22) rfl (by kernel_rfl) (by kernel_rfl) (by kernel_rfl) (fun _ _ _ h => h) (Or.inl ⟨by rfl, ?yh4_21z22⟩) (by assumption) ?rh4_21z22
          case yh4_21z22 => (intro w hSw; (try dsimp only at hSw); go_simp; try with_reducible rfl)
          simp only [Act.put, List.getElem_toArray, List.getElem_cons_succ, List.getElem_cons_zero, List.setIfInBounds_toArray, List.set_cons_zero, List.set_cons_succ]
          refine wpAnyH_take (i := 22) (v := ?vh4_22z23) rfl (by kernel_rfl) (by kernel_rfl) (by kernel_rfl) (fun _ _ _ h => h) (Or.inl ⟨by rfl, ?yh4_22z23⟩) (by assumption) ?rh4_22z23
          case yh4_22z23 => (intro w hSw; (try dsimp only at hSw); go_simp; try with_reducible rfl)
          simp only [Act.put, List.getElem_toArray, List.getElem_cons_succ, List.getElem_cons_zero, List.setIfInBounds_toArray, List.set_cons_zero, List.set_cons_succ]
          refine wpAnyH_take (i := 23) (v := ?vh4_23z24) rfl (by kernel_rfl) (by kernel_rfl) (by kernel_rfl) (fun _ _ _ h => h) (Or.inl ⟨by rfl, ?yh4_23z24⟩) (by assumption) ?rh4_23z24
          case yh4_23z24 => (intro w hSw; (try dsimp only at hSw); go_simp; try with_reducible rfl)
          simp only [Act.put, List.getElem_toArray, List.getElem_cons_succ, List.getElem_cons_zero, List.setIfInBounds_toArray, List.set_cons_zero, List.set_cons_succ]
          refine wpAnyH_done (by kernel_rfl) ?_ _
          go_wp2_with fail
          go_meet
          exact ⟨by rw [hg], Lib.hid (by first | exact grown_reflX _ _ | exact grown_drewT (grown_reflX _ _) | exact grown_drewNT (grown_reflX _ _) _)⟩
  case rest =>
  obtain ⟨rfl, hG⟩ := hcut
  have D5 := Lib.hid (D5.out.trans hG.out)
  have m1 := hG.out.cell m1 (by simp)
  have m2 := hG.out.cell m2 (by simp)
  have m3 := hG.out.cell m3 (by simp)
  have m4 := hG.out.cell m4 (by simp)
  clear hG
  have hq : ((q : Int) == q2) = g2 := by
    rw [HG.out.2.1]
    cases h : (q == q2) with
    | true => rw [beq_iff_eq] at h ⊢; omega
    | false => rw [beq_eq_false_iff_ne] at h ⊢; omega
  go_upto_region 12 with fail
  have E1 := rt_or HG.out.2.2.2.1
  have E2 := rt_or HG.out.2.2.2.2.1
  have E4 := rt_or HG.out.2.2.2.2.2
  clear HG
  go_quiet (fail)
  obtain ⟨x1, hx⟩ : ∃ x : Int, x = (r1 : Int) := ⟨_, rfl⟩
  rw [← hx] at E1 ⊢
  clear hx
  obtain ⟨x2, hx⟩ : ∃ x : Int, x = (r2 : Int) := ⟨_, rfl⟩
  rw [← hx] at E2 ⊢
  clear hx
  obtain ⟨x4, hx⟩ : ∃ x : Int, x = (r4 : Int) := ⟨_, rfl⟩
  rw [← hx] at E4 ⊢
  clear hx m1 m2 m3 m4 hq
  have E1 := Lib.hid E1
  have E2 := Lib.hid E2
  have E4 := Lib.hid E4
  go_wp2_with fail
  go_loopw [160] (fun i wr => ∃ z : Nat, i = .int .i64 z ∧ z ≤ 4 ∧ Hid (wc.grownBy wr none)) (fun i _ => 4 - (intOf i).toNat)
  case atStart => exact ⟨0, rfl, by omega, Lib.hid (by first | exact grown_reflX _ _ | exact grown_drewT (grown_reflX _ _) | exact grown_drewNT (grown_reflX _ _) _)⟩
  case round =>
    obtain ⟨z, rfl, hz, KW⟩ := hrel
    by_cases hz0 : z = 0
    · subst hz0
      clear hz
      rcases E1.out with ⟨rfl, rfl⟩ | ⟨rfl, rfl⟩
      · have ix := ix4_0 0 true x2 g2 0 true x4 g4
        have q0 := cell_of_row _ _ 0 _ _ _ (heap_alloc_new wr (.cells #[.int .i64 0, .bool true] 55))
        have q1 := cell_of_row _ _ 1 _ _ _ (heap_alloc_new wr (.cells #[.int .i64 0, .bool true] 55))
        simp only [List.getElem?_toArray, List.getElem?_cons_zero, List.getElem?_cons_succ] at q0 q1
        have C4 := Lib.hid (KW.out.trans (World.grownBy_alloc wr (.cells #[.int .i64 0, .bool true] 55) none))
        go_wp2_with fail
        go_roundw
        case rel => exact ⟨1, rfl, by omega, C4⟩
        case measure => simp [intOf]
      · have ix := ix4_0 16 false x2 g2 16 false x4 g4
        have q0 := cell_of_row _ _ 0 _ _ _ (heap_alloc_new wr (.cells #[.int .i64 16, .bool false] 55))
        have q1 := cell_of_row _ _ 1 _ _ _ (heap_alloc_new wr (.cells #[.int .i64 16, .bool false] 55))
        simp only [List.getElem?_toArray, List.getElem?_cons_zero, List.getElem?_cons_succ] at q0 q1
        have C4 := Lib.hid (KW.out.trans (World.grownBy_alloc wr (.cells #[.int .i64 16, .bool false] 55) none))
        go_wp2_with fail
        go_roundw
        case rel => exact ⟨1, rfl, by omega, C4⟩
        case measure => simp [intOf]
    by_cases hz1 : z = 1
    · subst hz1
      clear hz
      rcases E2.out with ⟨rfl, rfl⟩ | ⟨rfl, rfl⟩
      · have ix := ix4_1 x1 g1 0 true x1 g1 x4 g4
        have q0 := cell_of_row _ _ 0 _ _ _ (heap_alloc_new wr (.cells #[.int .i64 0, .bool true] 55))
        have q1 := cell_of_row _ _ 1 _ _ _ (heap_alloc_new wr (.cells #[.int .i64 0, .bool true] 55))
        simp only [List.getElem?_toArray, List.getElem?_cons_zero, List.getElem?_cons_succ] at q0 q1
        have C4 := Lib.hid (KW.out.trans (World.grownBy_alloc wr (.cells #[.int .i64 0, .bool true] 55) none))
        go_wp2_with fail
        go_roundw
        case rel => exact ⟨2, rfl, by omega, C4⟩
        case measure => simp [intOf]
      · have ix := ix4_1 x1 g1 16 false x1 g1 x4 g4
        have q0 := cell_of_row _ _ 0 _ _ _ (heap_alloc_new wr (.cells #[.int .i64 16, .bool false] 55))
        have q1 := cell_of_row _ _ 1 _ _ _ (heap_alloc_new wr (.cells #[.int .i64 16, .bool false] 55))
        simp only [List.getElem?_toArray, List.getElem?_cons_zero, List.getElem?_cons_succ] at q0 q1
        have C4 := Lib.hid (KW.out.trans (World.grownBy_alloc wr (.cells #[.int .i64 16, .bool false] 55) none))
        go_wp2_with fail
        go_roundw
        case rel => exact ⟨2, rfl, by omega, C4⟩
        case measure => simp [intOf]
    by_cases hz2 : z = 2
    · subst hz2
      clear hz
      rcases E1.out with ⟨rfl, rfl⟩ | ⟨rfl, rfl⟩
      · have ix := ix4_2 0 true x2 g2 0 true x4 g4
        have q0 := cell_of_row _ _ 0 _ _ _ (heap_alloc_new wr (.cells #[.int .i64 0, .bool true] 55))
        have q1 := cell_of_row _ _ 1 _ _ _ (heap_alloc_new wr (.cells #[.int .i64 0, .bool true] 55))
        simp only [List.getElem?_toArray, List.getElem?_cons_zero, List.getElem?_cons_succ] at q0 q1
        have C4 := Lib.hid (KW.out.trans (World.grownBy_alloc wr (.cells #[.int .i64 0, .bool true] 55) none))
        go_wp2_with fail
        go_roundw
        case rel => exact ⟨3, rfl, by omega, C4⟩
        case measure => simp [intOf]
      · have ix := ix4_2 16 false x2 g2 16 false x4 g4
        have q0 := cell_of_row _ _ 0 _ _ _ (heap_alloc_new wr (.cells #[.int .i64 16, .bool false] 55))
        have q1 := cell_of_row _ _ 1 _ _ _ (heap_alloc_new wr (.cells #[.int .i64 16, .bool false] 55))
        simp only [List.getElem?_toArray, List.getElem?_cons_zero, List.getElem?_cons_succ] at q0 q1
        have C4 := Lib.hid (KW.out.trans (World.grownBy_alloc wr (.cells #[.int .i64 16, .bool false] 55) none))
        go_wp2_with fail
        go_roundw
        case rel => exact ⟨3, rfl, by omega, C4⟩
        case measure => simp [intOf]
    by_cases hz3 : z = 3
    · subst hz3
      clear hz
      rcases E4.out with ⟨rfl, rfl⟩ | ⟨rfl, rfl⟩
      · have ix := ix4_3 x1 g1 x2 g2 x1 g1 0 true
        have q0 := cell_of_row _ _ 0 _ _ _ (heap_alloc_new wr (.cells #[.int .i64 0, .bool true] 55))
        have q1 := cell_of_row _ _ 1 _ _ _ (heap_alloc_new wr (.cells #[.int .i64 0, .bool true] 55))
        simp only [List.getElem?_toArray, List.getElem?_cons_zero, List.getElem?_cons_succ] at q0 q1
        have C4 := Lib.hid (KW.out.trans (World.grownBy_alloc wr (.cells #[.int .i64 0, .bool true] 55) none))
        go_wp2_with fail
        go_roundw
        case rel => exact ⟨4, rfl, by omega, C4⟩
        case measure => simp [intOf]
      · have ix := ix4_3 x1 g1 x2 g2 x1 g1 16 false
        have q0 := cell_of_row _ _ 0 _ _ _ (heap_alloc_new wr (.cells #[.int .i64 16, .bool false] 55))
        have q1 := cell_of_row _ _ 1 _ _ _ (heap_alloc_new wr (.cells #[.int .i64 16, .bool false] 55))
        simp only [List.getElem?_toArray, List.getElem?_cons_zero, List.getElem?_cons_succ] at q0 q1
        have C4 := Lib.hid (KW.out.trans (World.grownBy_alloc wr (.cells #[.int .i64 16, .bool false] 55) none))
        go_wp2_with fail
        go_roundw
        case rel => exact ⟨4, rfl, by omega, C4⟩
        case measure => simp [intOf]
    obtain rfl : z = 4 := by omega
    go_wp2_with fail
    go_ret
    exact ⟨rfl, D5.out.trans KW.out⟩
end Go.Proofs.YtjaclmoobfeikaaGreatDoor
namespace Go.Proofs.YtjaclmoobfeikaaGreatDoor
open Go.RowKit
theorem CheckCompares_any (a b c : Int) (ha : 0 ≤ a) (hb : 0 ≤ b) (hc : 0 ≤ c) (W : World) (hL : laidMetH Tryz.prog laid12x W) : Calls Tryz.prog 5 #[.int .u8 a, .int .u8 b, .int .u8 c] W fun e W' => e = .returned (.bool true) ∧ Below W.heap.size W W' := by
  obtain ⟨n, g, m, l, hE⟩ := lxEnv12_of hL
  obtain ⟨f, hF⟩ := ckEnv12_of hL
  obtain ⟨a, rfl⟩ := Int.eq_ofNat_of_zero_le ha
  obtain ⟨b, rfl⟩ := Int.eq_ofNat_of_zero_le hb
  obtain ⟨c, rfl⟩ := Int.eq_ofNat_of_zero_le hc
  exact (checkCompares_any _ _ n g m l f a b c W hE hF).mono fun _ _ ⟨he, hg⟩ => ⟨he, below_grownL hg⟩
end Go.Proofs.YtjaclmoobfeikaaGreatDoor
namespace Go.Proofs.YtjaclmoobfeikaaGreatDoor
open Go.ChangeShapes Go.WideShapes Go.ChangeAt Go.RowKit Go.Joins
open Go.ChangeMaps (open_string shut_string)

set_option maxRecDepth 100000 in
theorem checkCompares_lifted (os : Os) (started : os.Started) (H : Type) (enc : TypeId × Value → H) :
    ReturnsInHanded {} Tryz.checked os 5 .any (fun w args => (Rows.checkComparesSpec.pre enc Tryz.prog Tryz.f5 [] false w args ∧ laidMetH Tryz.prog laid12x w) ∧ sizedMet enc Tryz.prog Tryz.f5 (OpenSpec.ofChange Rows.checkComparesSpec) false w args)
      (Rows.checkComparesSpec.post enc Tryz.prog Tryz.f5 false true false false) := by
  refine returnsInHanded_of_change_and (C := Tryz.checked) (X := fun w _ => laidMetH Tryz.prog laid12x w) (fun _ _ _ hh h => h.of_heap hh) own started (by kernel_rfl) Tryz.func5
    (ChangeSpec.witness_shaped (enc := enc) (C := Tryz.checked) (os := os) (X := fun w _ => laidMetH Tryz.prog laid12x w) false (World.doorLaid Tryz.prog 400 os) #[.int .u8 0, .int .u8 0, .int .u8 0] 8 rfl (World.shaped_of_RefB (by kernel_rfl) (by kernel_rfl)) (by kernel_rfl) (by kernel_rfl) (by kernel_rfl) (door_met12x os _)) ?_
  intro W base args ds gs before hval0 hW _ _ hL _
  have hval : ∀ (j : Nat) t v, Tryz.f5.params[j]? = some t → args[j]? = some v → Value.okWide Tryz.prog W .any base t v := hval0
  have hW' := hW
  obtain ⟨p, q, hA0, hV, rfl, hfz, hnd⟩ := hW
  have hA : DataW.TrodAll enc Tryz.prog W 0 (fun _ => true) true Tryz.f5.params.toList args.toList ds p := hA0
  rw [Tryz.params5] at hA hval
  obtain ⟨v0, v1, v2, d0, d1, d2, p0, p1, p2, rfl, rfl, rfl, h0, h1, h2⟩ := trodAll_three hA
  obtain ⟨rfl, rfl⟩ := trodVars_none hV
  obtain ⟨n0, rfl, rfl, rfl, wn0⟩ := open_int Tryz.underlying5 (hval 0 5 v0 rfl rfl) h0
  have b0 : 0 ≤ n0 := by
    have h := wn0
    simp [Lit.wf, IntKind.min, IntKind.signed] at h
    omega
  have e0 : n0 ≤ 255 := by
    have h := wn0
    simp [Lit.wf, IntKind.min, IntKind.max, IntKind.signed, IntKind.bits] at h
    omega
  obtain ⟨n1, rfl, rfl, rfl, wn1⟩ := open_int Tryz.underlying5 (hval 1 5 v1 rfl rfl) h1
  have b1 : 0 ≤ n1 := by
    have h := wn1
    simp [Lit.wf, IntKind.min, IntKind.signed] at h
    omega
  have e1 : n1 ≤ 255 := by
    have h := wn1
    simp [Lit.wf, IntKind.min, IntKind.max, IntKind.signed, IntKind.bits] at h
    omega
  obtain ⟨n2, rfl, rfl, rfl, wn2⟩ := open_int Tryz.underlying5 (hval 2 5 v2 rfl rfl) h2
  have b2 : 0 ≤ n2 := by
    have h := wn2
    simp [Lit.wf, IntKind.min, IntKind.signed] at h
    omega
  have e2 : n2 ≤ 255 := by
    have h := wn2
    simp [Lit.wf, IntKind.min, IntKind.max, IntKind.signed, IntKind.bits] at h
    omega
  clear hA0 hval0
  simp only [List.append_nil] at hW'
  refine (CheckCompares_any n0 n1 n2 b0 b1 b2 W hL).mono fun e W' ⟨he, hb⟩ => ?_
  subst he
  exact ⟨_, rfl, _, _, _, [], _, [], hW', trodAll_mk1 (shut_bool Tryz.underlying4 _), trodAll_mk3 (shut_int Tryz.underlying5 wn0) (shut_int Tryz.underlying5 wn1) (shut_int Tryz.underlying5 wn2), rfl, hb.frame _, fun h => by cases h⟩

theorem checkCompares_holds : Rows.CheckComparesSaid :=
  OpenClaim.holds_of_wide 5 Tryz.f5 rfl rfl rfl rfl rfl rfl rfl ⟨rfl, rfl, rfl, rfl, rfl⟩ rfl rfl rfl rfl rfl (by kernel_rfl) Tryz.func5 (by kernel_rfl)
    (of_decide_eq_true (by kernel_rfl)) (by unfold Func.isWrapper; first | (rw [if_pos (by decide +kernel)]; kernel_rfl) | (rw [if_neg (by decide +kernel)]; exact ⟨rfl, rfl⟩))
    (fun os started H enc _ => checkCompares_lifted os started H enc)

theorem checkCompares_card : Rows.CheckComparesCardSaid :=
  Claim7.holds_tied_plain_at .later [] [.data, .data, .data, .handle, .sentinel, .sentinel, .sentinel, .sentinel, .sentinel, .sentinel, .sentinel, .sentinel, .sentinel, .sentinel, .sentinel] true Rows.checkComparesCard.stood.harness true
    checkCompares_holds (fun _ h => by cases h) (by kernel_rfl) (fun _ h => by cases h) checkCompares_row_tie rfl ⟨rfl, rfl⟩ (by kernel_rfl) rfl
    (fun f fn hf hfn => by
      obtain rfl : f = 5 := Option.some.inj ((show Tryz.prog.funcNamed "stillroom/stillroomlaw12.CheckCompares" = some 5 by kernel_rfl).symm.trans hf) |>.symm
      obtain rfl : fn = Tryz.f5 := (Option.some.inj (Tryz.func5.symm.trans hfn)).symm
      exact ⟨by kernel_rfl, fun j t ht => by
        rw [Tryz.params5] at ht
        have hm : t ∈ [5, 5, 5] := by simpa using Array.mem_of_getElem? ht
        have hall : ([5, 5, 5].all fun u => !Tryz.prog.wantsStandIn u) = true := by kernel_rfl
        exact (show Tryz.prog.wantsStandIn t = false by simpa using List.all_eq_true.1 hall t hm)⟩)
    (by kernel_rfl)
#print axioms checkCompares_card
end Go.Proofs.YtjaclmoobfeikaaGreatDoor
