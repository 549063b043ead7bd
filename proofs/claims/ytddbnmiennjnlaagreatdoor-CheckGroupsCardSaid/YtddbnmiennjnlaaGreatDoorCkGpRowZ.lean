/- What the cards of layer 12 share: their fifteen listed variables, and what these give. The law CheckGroups: its texts, and what they are told. The law CheckGroups: its closure. The law CheckGroups. The law CheckGroups, in the row's words. PROVED: the card of CheckGroups: at every input, in whatever memory that meets the row's listed variables (which the card ties to the program's text), the call returns true and its arguments read as they did. No condition of our own. -/
import Derived.Test.YtddbnmiennjnlaaGreatDoorZk18
import Derived.Test.YtddbnmiennjnlaaGreatDoorZk25
import Derived.Test.YtddbnmiennjnlaaGreatDoorZk43
import Derived.Deep.RegionHeld
import Derived.Test.YtddbnmiennjnlaaGreatDoorCards
import Derived.Test.YtddbnmiennjnlaaGreatDoorTie
import Derived.SevenTiedAt
namespace Go.Proofs.YtddbnmiennjnlaaGreatDoor
open Go.ChangeShapes Go.WideShapes Go.ChangeAt Go.RowKit Go.Joins Go.Deep

def tail12x : List (String × DataW Unit) := [("math/bits.deBruijn32tab", Rows.laid_math_bits_deBruijn32tab), ("math/bits.deBruijn64tab", Rows.laid_math_bits_deBruijn64tab), ("internal/strconv.uint64pow10", Rows.laid_internal_strconv_uint64pow10), ("strconv.ErrRange", Rows.laid_strconv_ErrRange), ("strconv.ErrSyntax", Rows.laid_strconv_ErrSyntax), ("stillroom/check.errTable", Rows.laid_stillroom_check_errTable), ("stillroom/check.errColumn", Rows.laid_stillroom_check_errColumn), ("stillroom/check.errType", Rows.laid_stillroom_check_errType), ("stillroom/check.errTwice", Rows.laid_stillroom_check_errTwice), ("stillroom/check.errGroup", Rows.laid_stillroom_check_errGroup), ("stillroom/lex.errNone", Rows.laid_stillroom_lex_errNone), ("stillroom/lex.errGreat", Rows.laid_stillroom_lex_errGreat), ("stillroom/lex.errMany", Rows.laid_stillroom_lex_errMany), ("stillroom/lex.errLong", Rows.laid_stillroom_lex_errLong)]
def laid12x : List (String × DataW Unit) := [("math/bits.deBruijn32tab", Rows.laid_math_bits_deBruijn32tab), ("math/bits.deBruijn64tab", Rows.laid_math_bits_deBruijn64tab), ("internal/strconv.uint64pow10", Rows.laid_internal_strconv_uint64pow10), ("errors.errorType", Rows.laid_errors_errorType), ("strconv.ErrRange", Rows.laid_strconv_ErrRange), ("strconv.ErrSyntax", Rows.laid_strconv_ErrSyntax), ("stillroom/check.errTable", Rows.laid_stillroom_check_errTable), ("stillroom/check.errColumn", Rows.laid_stillroom_check_errColumn), ("stillroom/check.errType", Rows.laid_stillroom_check_errType), ("stillroom/check.errTwice", Rows.laid_stillroom_check_errTwice), ("stillroom/check.errGroup", Rows.laid_stillroom_check_errGroup), ("stillroom/lex.errNone", Rows.laid_stillroom_lex_errNone), ("stillroom/lex.errGreat", Rows.laid_stillroom_lex_errGreat), ("stillroom/lex.errMany", Rows.laid_stillroom_lex_errMany), ("stillroom/lex.errLong", Rows.laid_stillroom_lex_errLong)]
theorem door_met12x (os : Os) (args : Array Value) : laidMetH Tryz.prog laid12x ((World.doorLaid Tryz.prog 400 os).forCall (fun _ _ => 0) ⟨#[], args, []⟩).memory :=
  laidMetH_of_parts3 (fuel := 8) (laidMet_of_run' 8 (by kernel_rfl) (by kernel_rfl)) (by kernel_rfl) (by kernel_rfl)
theorem split12x {W : World} (h : laidMetH Tryz.prog laid12x W) : laidMet Tryz.prog tail12x W ∧ handlesMet Tryz.prog [("errors.errorType", Rows.laid_errors_errorType)] W := h
set_option maxRecDepth 100000 in
theorem lxEnv12_of {W : World} (h : laidMetH Tryz.prog laid12x W) : ∃ n g m l, LxEnv W.heap.size n g m l W := by
  have h5 := (split12x h).1.tail.tail.tail
  obtain ⟨_, hr⟩ := senAt_of h5 (by kernel_rfl) (by kernel_rfl)
  have h6 := h5.tail.tail.tail.tail.tail.tail.tail
  obtain ⟨n, hn⟩ := senAt_of h6 (by kernel_rfl) (by kernel_rfl)
  obtain ⟨g, hg⟩ := senAt_of h6.tail (by kernel_rfl) (by kernel_rfl)
  obtain ⟨m, hm⟩ := senAt_of h6.tail.tail (by kernel_rfl) (by kernel_rfl)
  obtain ⟨l, hl⟩ := senAt_of h6.tail.tail.tail (by kernel_rfl) (by kernel_rfl)
  exact ⟨n, g, m, l, hn, hg, hm, hl, ⟨_, _, hr.var⟩, hr.lt, handle_of (split12x h).2 (by simp), Nat.le_refl _⟩
def five12 (a b c d e : Addr) : Nat → Addr := fun n => if n = 14 then a else if n = 15 then b else if n = 16 then c else if n = 23 then d else e
set_option maxRecDepth 100000 in
theorem ckEnv12_of {W : World} (h : laidMetH Tryz.prog laid12x W) : ∃ f, CkEnv W.heap.size f W := by
  have h5 := (split12x h).1.tail.tail.tail.tail.tail
  obtain ⟨a, ha⟩ := senAt_of h5 (by kernel_rfl) (by kernel_rfl)
  obtain ⟨b, hb⟩ := senAt_of h5.tail (by kernel_rfl) (by kernel_rfl)
  obtain ⟨c, hc⟩ := senAt_of h5.tail.tail (by kernel_rfl) (by kernel_rfl)
  obtain ⟨d, hd⟩ := senAt_of h5.tail.tail.tail (by kernel_rfl) (by kernel_rfl)
  obtain ⟨e, he⟩ := senAt_of h5.tail.tail.tail.tail (by kernel_rfl) (by kernel_rfl)
  exact ⟨five12 a b c d e, ha, hb, hc, hd, he, handle_of (split12x h).2 (by simp), Nat.le_refl _⟩
end Go.Proofs.YtddbnmiennjnlaaGreatDoor
namespace Go.Proofs.YtddbnmiennjnlaaGreatDoor
open Go.RowKit

def nmG : Nat → ByteArray
  | 0 => ⟨#[97]⟩ | 1 => ⟨#[98]⟩ | 2 => ⟨#[99]⟩ | _ => ⟨#[100]⟩
/-- Is column i among those that mask m groups by. -/
def inG (m i : Nat) : Bool := m / 2 ^ i % 2 == 1
/-- The list of the first n columns that the mask has, a comma ahead of each. -/
def lsG (m : Nat) : Nat → ByteArray
  | 0 => ⟨#[]⟩
  | n + 1 => if inG m n then lsG m n ++ ((⟨#[44, 32]⟩ : ByteArray) ++ nmG n) else lsG m n
def gbG (m : Nat) : ByteArray := if (lsG m 4).size = 0 then ⟨#[]⟩ else (⟨#[32, 71, 82, 79, 85, 80, 32, 66, 89, 32]⟩ : ByteArray) ++ (lsG m 4).extract 2 (lsG m 4).size
def gT1 (i k m : Nat) : ByteArray := (⟨#[83, 69, 76, 69, 67, 84, 32, 67, 79, 85, 78, 84, 40, 42, 41, 44, 32]⟩ : ByteArray) ++ nmG i ++ ⟨#[32, 70, 82, 79, 77, 32, 116]⟩ ++ gbG m ++ ⟨#[32, 79, 82, 68, 69, 82, 32, 66, 89, 32]⟩ ++ nmG k
def gT2 (i k : Nat) : ByteArray := (⟨#[83, 69, 76, 69, 67, 84, 32]⟩ : ByteArray) ++ nmG i ++ ⟨#[32, 70, 82, 79, 77, 32, 116, 32, 79, 82, 68, 69, 82, 32, 66, 89, 32]⟩ ++ nmG k
def gT3 (m : Nat) : ByteArray := (⟨#[83, 69, 76, 69, 67, 84, 32, 42, 32, 70, 82, 79, 77, 32, 116]⟩ : ByteArray) ++ gbG m
def gT4 (i k : Nat) : ByteArray := (⟨#[83, 69, 76, 69, 67, 84, 32, 67, 79, 85, 78, 84, 40]⟩ : ByteArray) ++ nmG i ++ ⟨#[41, 32, 70, 82, 79, 77, 32, 116, 32, 71, 82, 79, 85, 80, 32, 66, 89, 32]⟩ ++ nmG k ++ ⟨#[44, 32]⟩ ++ nmG i
/-- The first text is told what the law says. -/
def gOk (i k m : Nat) : Bool := (codeC (gT1 i k m)).2 == (if inG m i && inG m k then 0 else 17) && ((inG m i && inG m k) || (((codeC (gT1 i k m)).1 == 17) == !inG m i))
theorem gc00 : ((List.range 16).all fun m => gOk 0 0 m) = true := by decide +kernel
theorem gc01 : ((List.range 16).all fun m => gOk 0 1 m) = true := by decide +kernel
theorem gc02 : ((List.range 16).all fun m => gOk 0 2 m) = true := by decide +kernel
theorem gc03 : ((List.range 16).all fun m => gOk 0 3 m) = true := by decide +kernel
theorem gc10 : ((List.range 16).all fun m => gOk 1 0 m) = true := by decide +kernel
theorem gc11 : ((List.range 16).all fun m => gOk 1 1 m) = true := by decide +kernel
theorem gc12 : ((List.range 16).all fun m => gOk 1 2 m) = true := by decide +kernel
theorem gc13 : ((List.range 16).all fun m => gOk 1 3 m) = true := by decide +kernel
theorem gc20 : ((List.range 16).all fun m => gOk 2 0 m) = true := by decide +kernel
theorem gc21 : ((List.range 16).all fun m => gOk 2 1 m) = true := by decide +kernel
theorem gc22 : ((List.range 16).all fun m => gOk 2 2 m) = true := by decide +kernel
theorem gc23 : ((List.range 16).all fun m => gOk 2 3 m) = true := by decide +kernel
theorem gc30 : ((List.range 16).all fun m => gOk 3 0 m) = true := by decide +kernel
theorem gc31 : ((List.range 16).all fun m => gOk 3 1 m) = true := by decide +kernel
theorem gc32 : ((List.range 16).all fun m => gOk 3 2 m) = true := by decide +kernel
theorem gc33 : ((List.range 16).all fun m => gOk 3 3 m) = true := by decide +kernel
theorem gcodes1 {i k m : Nat} (hi : i < 4) (hk : k < 4) (hm : m < 16) : gOk i k m = true := by
  have h : ((List.range 16).all fun m => gOk i k m) = true := by
    match i, k, hi, hk with
    | 0, 0, _, _ => exact gc00
    | 0, 1, _, _ => exact gc01
    | 0, 2, _, _ => exact gc02
    | 0, 3, _, _ => exact gc03
    | 1, 0, _, _ => exact gc10
    | 1, 1, _, _ => exact gc11
    | 1, 2, _, _ => exact gc12
    | 1, 3, _, _ => exact gc13
    | 2, 0, _, _ => exact gc20
    | 2, 1, _, _ => exact gc21
    | 2, 2, _, _ => exact gc22
    | 2, 3, _, _ => exact gc23
    | 3, 0, _, _ => exact gc30
    | 3, 1, _, _ => exact gc31
    | 3, 2, _, _ => exact gc32
    | 3, 3, _, _ => exact gc33
  exact List.all_eq_true.1 h m (List.mem_range.2 hm)
theorem gcodes2 : ∀ i < 4, ∀ k < 4, (codeC (gT2 i k)).2 = 0 ∧ (codeC (gT4 i k)).2 = (if i = k then 23 else 0) := by decide +kernel
theorem gcodes3 : ∀ m < 16, (codeC (gT3 m)).2 = (if m = 0 then 0 else 17) := by decide +kernel
theorem lsG_facts : ∀ m < 16, (∀ n < 5, (lsG m n).size ≤ 3 * n) ∧ (m = 0 ↔ (lsG m 4).size = 0) ∧ ((lsG m 4).size ≠ 0 → 2 ≤ (lsG m 4).size) ∧ (gbG m).size ≤ 40 ∧ ((gbG m).size = 0 ↔ m = 0) := by decide +kernel
end Go.Proofs.YtddbnmiennjnlaaGreatDoor
namespace Go.Proofs.YtddbnmiennjnlaaGreatDoor
open Go.RowKit

theorem bitG (gp i : Nat) (hi : i < 4) (hg : gp < 256) : (bits BinOp.and IntKind.u8 ((gp : Int) / 2 ^ i) 1 == 1) = inG gp i := by
  have h : ∀ gp : Nat, gp < 256 → ∀ i : Nat, i < 4 → (bits BinOp.and IntKind.u8 ((gp : Int) / 2 ^ i) 1 == 1) = inG gp i := by decide +kernel
  exact h gp hg i hi
set_option maxRecDepth 100000 in
set_option maxHeartbeats 3200000 in
theorem inG_any (gp i : Nat) (b : Nat) (w : World) (hg : gp < 256) (hi : i < 4) (hc : w.cell? ⟨b, 0, none⟩ = some (.int .u8 gp)) : Calls Tryz.prog 15 #[.int .u8 i, .pointer (some ⟨b, 0, none⟩)] w fun e w' => e = .returned (.bool (inG gp i)) ∧ w.grownBy w' none := by
  go_enter Tryz.func15, Tryz.ntmps15
  go_wp2_with fail
  rw [bitG gp i hi hg]
  go_ret
  exact ⟨rfl, grown_reflX _ _⟩
end Go.Proofs.YtddbnmiennjnlaaGreatDoor
namespace Go.Proofs.YtddbnmiennjnlaaGreatDoor
open Go.RowKit

theorem nmG_few : ∀ i, (nmG i).size ≤ 1
  | 0 => Nat.le_refl 1
  | 1 => Nat.le_refl 1
  | 2 => Nat.le_refl 1
  | _ + 3 => Nat.le_refl 1
theorem lsG_step {m n : Nat} : lsG m (n + 1) = if inG m n then lsG m n ++ ((⟨#[44, 32]⟩ : ByteArray) ++ nmG n) else lsG m n := rfl
theorem lsG_few (m : Nat) : ∀ n, (lsG m n).size ≤ 3 * n
  | 0 => Nat.le_refl 0
  | n + 1 => by
    rw [lsG_step]
    have := lsG_few m n
    have := nmG_few n
    split
    · simp only [ByteArray.size_append]
      show (lsG m n).size + (2 + (nmG n).size) ≤ 3 * (n + 1)
      omega
    · omega
theorem tabs_keptG {W W' : World} {b : Option Addr} {l : List Tb} (h : TabsAt W.heap.size W b l) (hg : W.grownBy W' none) : TabsAt W'.heap.size W' b l := by
  have h := h.keep hg (by simp)
  exact ⟨h.1, fun t ht => (h.2.1 t ht).mono hg.size, h.2.2.imp id fun ⟨b, off, e, hlt, hc⟩ => ⟨b, off, e, Nat.lt_of_lt_of_le hlt hg.size, hc⟩⟩
/-- What checked answers at a text whose number is known; with its place. -/
def CkG (w : World) (T : ByteArray) (r : Nat) : Prop := ∀ (a : Ptr) (b : Option Addr) (W : World), w.grownBy W none → TabsAt W.heap.size W b [catT a] → Calls Tryz.prog 9 #[.string T, .slice b 1 1] W fun e w' => W.grownBy w' none ∧ ∃ (y : Qm) (p : Nat), e = .returned (.tuple #[.agg y.c, .int .i64 p, .int .i64 r])
def CkP (w : World) (T : ByteArray) (p r : Nat) : Prop := ∀ (a : Ptr) (b : Option Addr) (W : World), w.grownBy W none → TabsAt W.heap.size W b [catT a] → Calls Tryz.prog 9 #[.string T, .slice b 1 1] W fun e w' => W.grownBy w' none ∧ ∃ (y : Qm), e = .returned (.tuple #[.agg y.c, .int .i64 p, .int .i64 r])
theorem ckG_of {G G2 : Nat} {n g m l : Addr} {f : Nat → Addr} {w : World} (hE : LxEnv G n g m l w) (hF : CkEnv G2 f w) {T : ByteArray} {r : Nat} (h : (codeC T).2 = r) : CkG w T r := fun a b W hW hT =>
  (lawC_any G G2 n g m l f T a b W hT (hE.keep hW) (hF.keep hW)).mono fun e w' hh => ⟨hh.1, hh.2.elim fun y hy => ⟨y, (codeC T).1, by rw [hy.1, h]⟩⟩
theorem ckP_of {G G2 : Nat} {n g m l : Addr} {f : Nat → Addr} {w : World} (hE : LxEnv G n g m l w) (hF : CkEnv G2 f w) {T : ByteArray} {p r : Nat} (hp : (codeC T).1 = p) (h : (codeC T).2 = r) : CkP w T p r := fun a b W hW hT =>
  (lawC_any G G2 n g m l f T a b W hT (hE.keep hW) (hF.keep hW)).mono fun e w' hh => ⟨hh.1, hh.2.elim fun y hy => ⟨y, by rw [hy.1, h, hp]⟩⟩
theorem inG_mod : ∀ gp : Nat, gp < 256 → ∀ i : Nat, i < 4 → inG gp i = inG (gp % 16) i := by decide +kernel
set_option maxRecDepth 100000 in
set_option maxHeartbeats 12800000 in
theorem checkGroups_any (G G2 : Nat) (n g m l : Addr) (f : Nat → Addr) (gp a b : Nat) (w : World) (hgp : gp < 256) (hE : LxEnv G n g m l w) (hF : CkEnv G2 f w) : Calls Tryz.prog 6 #[.int .u8 gp, .int .u8 a, .int .u8 b] w fun e w' => e = .returned (.bool true) ∧ w.grownBy w' none := by
  obtain ⟨i, hi, hi4⟩ : ∃ i : Nat, (a : Int) % 4 = i ∧ i < 4 := ⟨a % 4, by omega, by omega⟩
  obtain ⟨k, hk, hk4⟩ : ∃ i : Nat, (b : Int) % 4 = i ∧ i < 4 := ⟨b % 4, by omega, by omega⟩
  obtain ⟨ms, hms⟩ : ∃ x, x = gp % 16 := ⟨_, rfl⟩
  have hm16 : ms < 16 := by omega
  have HB : Hid (∀ n, n < 4 → (bits BinOp.and IntKind.u8 ((gp : Int) / 2 ^ n) 1 == 1) = inG ms n) := Lib.hid fun n hn => by rw [bitG gp n hn hgp, inG_mod gp hgp n hn, hms]
  have HA := Lib.hid (fun W (hW : w.grownBy W none) => awake12_any G G2 n g m l f W (hE.keep hW) (hF.keep hW))
  have HT := Lib.hid catalogC_any
  have HI : Hid (∀ (i b : Nat) (W : World), i < 4 → W.cell? ⟨b, 0, none⟩ = some (.int .u8 gp) → Calls Tryz.prog 15 #[.int .u8 i, .pointer (some ⟨b, 0, none⟩)] W fun e w' => e = .returned (.bool (inG ms i)) ∧ W.grownBy w' none) := Lib.hid fun i b W hi hc => by
    have := inG_any gp i b W hgp hi hc
    rw [inG_mod gp hgp i hi, ← hms] at this
    exact this
  have HEF := Lib.hid (And.intro hE hF)
  have G0 := Lib.hid (World.grownBy_alloc w (.cells #[.int .u8 gp] 5) none)
  have B0 := Lib.hid (cell_of_row _ _ 0 _ _ _ (heap_alloc_new w (.cells #[.int .u8 gp] 5)))
  clear hE hF hms hgp
  go_enter Tryz.func6, Tryz.ntmps6
  go_wp2_with fail
  refine (HA.out _ G0.out).mono ?_
  rintro e w1 ⟨rfl, hg⟩
  have K1 := Lib.hid (G0.out.trans hg)
  have B1 : Hid (w1.cell? ⟨w.heap.size, 0, none⟩ = some (.int .u8 gp)) := Lib.hid (hg.cell B0.out (by simp))
  clear hg HA B0 G0
  go_upto_region 5 with fail
  have gA := World.grownBy_alloc w1 (.cells #[.string ⟨#[97]⟩, .string ⟨#[98]⟩, .string ⟨#[99]⟩, .string ⟨#[100]⟩] 50) none
  have bA := heap_alloc_new w1 (.cells #[.string ⟨#[97]⟩, .string ⟨#[98]⟩, .string ⟨#[99]⟩, .string ⟨#[100]⟩] 50)
  have D5 := K1.out.trans gA
  have b5 := gA.cell B1.out (by simp)
  obtain ⟨W5, hW5⟩ : ∃ W, W = w1.alloc (.cells #[.string ⟨#[97]⟩, .string ⟨#[98]⟩, .string ⟨#[99]⟩, .string ⟨#[100]⟩] 50) := ⟨_, rfl⟩
  rw [← hW5] at bA D5 b5 ⊢
  clear hW5 gA B1 K1
  have D5 := Lib.hid D5
  have B5 := Lib.hid b5
  have C : Hid (∀ i, i < 4 → W5.cell? ⟨w1.heap.size, i, none⟩ = some (.string (nmG i))) := Lib.hid fun i hi => by
    rw [cell_of_row _ _ _ _ _ _ bA]
    match i, hi with
    | 0, _ => rfl
    | 1, _ => rfl
    | 2, _ => rfl
    | 3, _ => rfl
  clear bA b5
  go_wp2_with fail
  go_loopw [30, 9, 10] (fun x y _ wr => ∃ z : Nat, x = .int .i64 z ∧ z ≤ 4 ∧ y = .string (lsG ms z) ∧ Hid (W5.grownBy wr none)) (fun x _ _ _ => 4 - (intOf x).toNat)
  case atStart => exact ⟨0, rfl, by omega, rfl, Lib.hid (grown_reflX _ _)⟩
  case round =>
    obtain ⟨z, rfl, hz, rfl, KW⟩ := hrel
    by_cases hz4 : z = 4
    · subst hz4
      clear hz
      go_upto_region 11 with fail
      obtain ⟨_, h2, h3, _, _⟩ := lsG_facts ms hm16
      have HQ : Hid (ms = 0 ∧ lsG ms 4 = ⟨#[]⟩ ∧ gbG ms = ⟨#[]⟩ ∨ ms ≠ 0 ∧ ((lsG ms 4).toList == (⟨#[]⟩ : ByteArray).toList) = false ∧ 2 ≤ (lsG ms 4).size ∧ gbG ms = (⟨#[32, 71, 82, 79, 85, 80, 32, 66, 89, 32]⟩ : ByteArray) ++ (lsG ms 4).extract 2 (lsG ms 4).size) := Lib.hid (by
        by_cases hm0 : ms = 0
        · exact .inl ⟨hm0, by rw [hm0]; rfl, by rw [hm0]; rfl⟩
        · have e0 : ¬ (lsG ms 4).size = 0 := fun e => hm0 (h2.2 e)
          exact .inr ⟨hm0, str_ne (fun e => e0 (by rw [e]; rfl)), h3 e0, by unfold gbG; rw [if_neg e0]⟩)
      have s2 := lsG_few ms 4
      obtain ⟨x, hx⟩ : ∃ x, x = lsG ms 4 := ⟨_, rfl⟩
      rw [← hx] at HQ s2 ⊢
      clear h2 h3 hx
      obtain ⟨q0, hq0⟩ : ∃ q, q = (ms == 0) := ⟨_, rfl⟩
      have HQ0 := Lib.hid hq0
      clear hq0
      go_cut [46] from 47 (fun y wx => y = .bool (!q0) ∧ Hid (W5.grownBy wx none))
      case first => as_aux_lemma =>
        rcases HQ.out with ⟨h0, rfl, _⟩ | ⟨h0, h1, _, _⟩
        · go_wp2_with fail
          go_meet
          exact ⟨by rw [HQ0.out]; simp [h0], KW⟩
        · have hemp : x.toList.isEmpty = false := by
            rw [show (⟨#[]⟩ : ByteArray).toList = [] from by rw [Lib.toList_data]] at h1
            cases hl : x.toList with
            | nil => rw [hl] at h1; exact absurd h1 (by decide)
            | cons a b => rfl
          go_wp2_with fail
          go_meet
          exact ⟨by rw [HQ0.out]; simp [h0], KW⟩
      case rest =>
      obtain ⟨rfl, hG⟩ := hcut
      go_upto_if 46 with fail
      go_cut [8] from 47 (fun y wx => y = .string (gbG ms) ∧ Hid (W5.grownBy wx none))
      case first => as_aux_lemma =>
        rcases HQ.out with ⟨h0, _, h1⟩ | ⟨h0, _, h2, h3⟩
        · obtain rfl : q0 = true := by rw [HQ0.out]; simp [h0]
          go_wp2_with fail
          go_meet
          exact ⟨by rw [h1], hG⟩
        · have e2' : (2 : Int) ≤ x.size := by omega
          have s3 : (x.extract 2 x.size).size ≤ 12 := by simp only [ByteArray.size_extract]; omega
          have n3 : ¬ (9223372036854775807 < 10 + (x.extract 2 x.size).size) := by omega
          obtain rfl : q0 = false := by rw [HQ0.out]; simp [h0]
          have n4 : ¬ (9223372036854775807 < 10 + (x.size - 2)) := by omega
          clear s2 s3
          go_wp2_with fail
          go_meet
          exact ⟨by rw [h3], hG⟩
      case rest =>
      obtain ⟨rfl, hG⟩ := hcut
      have D5 := Lib.hid (D5.out.trans hG.out)
      have B5 := Lib.hid (hG.out.cell B5.out (by simp))
      have C : Hid (∀ i, i < 4 → wc.cell? ⟨w1.heap.size, i, none⟩ = some (.string (nmG i))) := Lib.hid fun i hi => hG.out.cell (C.out i hi) (by simp)
      clear hG KW HB HQ s2
      go_upto_region 15 with fail
      rw [hi, hk]
      clear hi hk
      obtain ⟨bi, hbi⟩ : ∃ x, x = inG ms i := ⟨_, rfl⟩
      obtain ⟨bk, hbk⟩ : ∃ x, x = inG ms k := ⟨_, rfl⟩
      have HI1 := Lib.hid (fun W b => HI.out i b W hi4)
      have HI2 := Lib.hid (fun W b => HI.out k b W hk4)
      rw [← hbi] at HI1
      rw [← hbk] at HI2
      obtain ⟨p1, hp1⟩ : ∃ x, x = (codeC (gT1 i k ms)).1 := ⟨_, rfl⟩
      obtain ⟨r1, hr1⟩ : ∃ x, x = (codeC (gT1 i k ms)).2 := ⟨_, rfl⟩
      have O1 := gcodes1 hi4 hk4 hm16
      unfold gOk at O1
      rw [← hp1, ← hr1, ← hbi, ← hbk] at O1
      have O1 : Hid ((bi && bk) = true ∧ r1 = 0 ∨ (bi && bk) = false ∧ r1 = 17 ∧ ((p1 : Int) == 17) = !bi) := Lib.hid (by
        simp only [Bool.and_eq_true, beq_iff_eq, Bool.or_eq_true] at O1
        cases hg : (bi && bk) with
        | true => exact .inl ⟨rfl, by rw [O1.1, if_pos (by simpa using hg)]⟩
        | false =>
          refine .inr ⟨rfl, by rw [O1.1, if_neg (by simpa using hg)], ?_⟩
          rcases O1.2 with h | h
          · rw [h.1, h.2] at hg; exact absurd hg (by decide)
          · rw [← h]
            cases h9 : (p1 == 17) with
            | true => rw [beq_iff_eq] at h9 ⊢; omega
            | false => rw [beq_eq_false_iff_ne] at h9 ⊢; omega)
      obtain ⟨r3, hr3⟩ : ∃ x, x = (codeC (gT3 ms)).2 := ⟨_, rfl⟩
      obtain ⟨r4, hr4⟩ : ∃ x, x = (codeC (gT4 i k)).2 := ⟨_, rfl⟩
      have O3 := Lib.hid (hr3.trans (gcodes3 ms hm16))
      have O4 := Lib.hid (hr4.trans (gcodes2 i hi4 k hk4).2)
      have H1 := Lib.hid (ckP_of HEF.out.1 HEF.out.2 hp1.symm hr1.symm)
      have H2 := Lib.hid (ckG_of HEF.out.1 HEF.out.2 (gcodes2 i hi4 k hk4).1)
      have H3 := Lib.hid (ckG_of HEF.out.1 HEF.out.2 hr3.symm)
      have H4 := Lib.hid (ckG_of HEF.out.1 HEF.out.2 hr4.symm)
      unfold CkP gT1 at H1
      unfold CkG gT2 at H2
      unfold CkG gT3 at H3
      unfold CkG gT4 at H4
      have si := nmG_few i
      have sk := nmG_few k
      obtain ⟨_, _, _, sg, hge⟩ := lsG_facts ms hm16
      obtain ⟨s8, hs8⟩ : ∃ x, x = gbG ms := ⟨_, rfl⟩
      rw [← hs8] at H1 H3 sg hge ⊢
      have HGE := Lib.hid hge
      have hi4' : (i : Int) < 4 := by omega
      have hk4' : (k : Int) < 4 := by omega
      clear hbi hbk hp1 hr1 hr3 hr4 hge hs8 HEF
      go_upto_region 15 with fail
      go_cut [14, 15, 16] from 55 (fun _ y x wx => y = .int .i64 p1 ∧ x = .int .i64 r1 ∧ Hid (wc.grownBy wx none))
      case first => as_aux_lemma =>
        refine wp_region_held_drew (S := (fun W => Hid (wc.grownBy W none))) (by kernel_rfl) (Lib.hid (grown_drewT (grown_reflX _ _))) (fun hHeld => ?_)
        refine wpAnyH_take (i := 0) (v := ?vg15_0z1) rfl (by kernel_rfl) (by kernel_rfl) (by kernel_rfl) (fun _ _ _ h => h) (Or.inl ⟨by rfl, ?yg15_0z1⟩) (by assumption) ?rg15_0z1
        case yg15_0z1 => (intro w hSw; (try dsimp only at hSw); go_simp; first | (rw [if_neg (by omega)]) | (with_reducible rfl) | skip)
        simp only [Act.put, List.getElem_toArray, List.getElem_cons_zero, List.size_toArray, List.length_cons, List.length_nil, Nat.reduceAdd, Array.replicate, List.replicate, List.setIfInBounds_toArray, List.set_cons_zero, List.set_cons_succ]
        refine wpAnyH_take (i := 1) (v := ?vg15_1z2) rfl (by kernel_rfl) (by kernel_rfl) (by kernel_rfl) (fun _ _ _ h => h) (Or.inl ⟨by rfl, ?yg15_1z2⟩) (by assumption) ?rg15_1z2
        case yg15_1z2 => (intro w hSw; (try dsimp only at hSw); go_simp; first | (rw [if_neg (by omega)]) | (with_reducible rfl) | skip)
        simp only [Act.put, List.getElem_toArray, List.getElem_cons_succ, List.getElem_cons_zero, List.setIfInBounds_toArray, List.set_cons_zero, List.set_cons_succ]
        refine wpAnyH_take (i := 2) (v := ?vg15_2z3) rfl (by kernel_rfl) (by kernel_rfl) (by kernel_rfl) (fun _ _ _ h => h) (Or.inl ⟨by rfl, ?yg15_2z3⟩) (by assumption) ?rg15_2z3
        case yg15_2z3 => (intro w hSw; have h0 := hSw.out.cell (C.out i hi4) (by simp); clear hSw; go_simp; first | (rw [if_neg (by omega)]) | (with_reducible rfl) | skip)
        simp only [Act.put, List.getElem_toArray, List.getElem_cons_succ, List.getElem_cons_zero, List.setIfInBounds_toArray, List.set_cons_zero, List.set_cons_succ]
        refine wpAnyH_take (i := 3) (v := ?vg15_3z4) rfl (by kernel_rfl) (by kernel_rfl) (by kernel_rfl) (fun _ _ _ h => h) (Or.inl ⟨by rfl, ?yg15_3z4⟩) (by assumption) ?rg15_3z4
        case yg15_3z4 => (intro w hSw; (try dsimp only at hSw); go_simp; first | (rw [if_neg (by omega)]) | (with_reducible rfl) | skip)
        simp only [Act.put, List.getElem_toArray, List.getElem_cons_succ, List.getElem_cons_zero, List.setIfInBounds_toArray, List.set_cons_zero, List.set_cons_succ]
        refine wpAnyH_take (i := 4) (v := ?vg15_4z5) rfl (by kernel_rfl) (by kernel_rfl) (by kernel_rfl) (fun _ _ _ h => h) (Or.inl ⟨by rfl, ?yg15_4z5⟩) (by assumption) ?rg15_4z5
        case yg15_4z5 => (intro w hSw; (try dsimp only at hSw); go_simp; first | (rw [if_neg (by omega)]) | (with_reducible rfl) | skip)
        simp only [Act.put, List.getElem_toArray, List.getElem_cons_succ, List.getElem_cons_zero, List.setIfInBounds_toArray, List.set_cons_zero, List.set_cons_succ]
        refine wpAnyH_take (i := 5) (v := ?vg15_5z6) rfl (by kernel_rfl) (by kernel_rfl) (by kernel_rfl) (fun _ _ _ h => h) (Or.inl ⟨by rfl, ?yg15_5z6⟩) (by assumption) ?rg15_5z6
        case yg15_5z6 => (intro w hSw; (try dsimp only at hSw); go_simp; first | (rw [if_neg (by omega)]) | (with_reducible rfl) | skip)
        simp only [Act.put, List.getElem_toArray, List.getElem_cons_succ, List.getElem_cons_zero, List.setIfInBounds_toArray, List.set_cons_zero, List.set_cons_succ]
        refine wpAnyH_take (i := 6) (v := ?vg15_6z7) rfl (by kernel_rfl) (by kernel_rfl) (by kernel_rfl) (fun _ _ _ h => h) (Or.inl ⟨by rfl, ?yg15_6z7⟩) (by assumption) ?rg15_6z7
        case yg15_6z7 => (intro w hSw; (try dsimp only at hSw); go_simp; first | (rw [if_neg (by omega)]) | (with_reducible rfl) | skip)
        simp only [Act.put, List.getElem_toArray, List.getElem_cons_succ, List.getElem_cons_zero, List.setIfInBounds_toArray, List.set_cons_zero, List.set_cons_succ]
        refine wpAnyH_take (i := 7) (v := ?vg15_7z8) rfl (by kernel_rfl) (by kernel_rfl) (by kernel_rfl) (fun _ _ _ h => h) (Or.inl ⟨by rfl, ?yg15_7z8⟩) (by assumption) ?rg15_7z8
        case yg15_7z8 => (intro w hSw; (try dsimp only at hSw); go_simp; first | (rw [if_neg (by omega)]) | (with_reducible rfl) | skip)
        simp only [Act.put, List.getElem_toArray, List.getElem_cons_succ, List.getElem_cons_zero, List.setIfInBounds_toArray, List.set_cons_zero, List.set_cons_succ]
        refine wpAnyH_take (i := 8) (v := ?vg15_8z9) rfl (by kernel_rfl) (by kernel_rfl) (by kernel_rfl) (fun _ _ _ h => h) (Or.inl ⟨by rfl, ?yg15_8z9⟩) (by assumption) ?rg15_8z9
        case yg15_8z9 => (intro w hSw; (try dsimp only at hSw); go_simp; first | (rw [if_neg (by omega)]) | (with_reducible rfl) | skip)
        simp only [Act.put, List.getElem_toArray, List.getElem_cons_succ, List.getElem_cons_zero, List.setIfInBounds_toArray, List.set_cons_zero, List.set_cons_succ]
        refine wpAnyH_take (i := 9) (v := ?vg15_9z10) rfl (by kernel_rfl) (by kernel_rfl) (by kernel_rfl) (fun _ _ _ h => h) (Or.inl ⟨by rfl, ?yg15_9z10⟩) (by assumption) ?rg15_9z10
        case yg15_9z10 => (intro w hSw; (try dsimp only at hSw); go_simp; first | (rw [if_neg (by omega)]) | (with_reducible rfl) | skip)
        simp only [Act.put, List.getElem_toArray, List.getElem_cons_succ, List.getElem_cons_zero, List.setIfInBounds_toArray, List.set_cons_zero, List.set_cons_succ]
        refine wpAnyH_take (i := 10) (v := ?vg15_10z11) rfl (by kernel_rfl) (by kernel_rfl) (by kernel_rfl) (fun _ _ _ h => h) (Or.inl ⟨by rfl, ?yg15_10z11⟩) (by assumption) ?rg15_10z11
        case yg15_10z11 => (intro w hSw; have h0 := hSw.out.cell (C.out k hk4) (by simp); clear hSw; go_simp; first | (rw [if_neg (by omega)]) | (with_reducible rfl) | skip)
        simp only [Act.put, List.getElem_toArray, List.getElem_cons_succ, List.getElem_cons_zero, List.setIfInBounds_toArray, List.set_cons_zero, List.set_cons_succ]
        refine wpAnyH_take (i := 11) (v := ?vg15_11z12) rfl (by kernel_rfl) (by kernel_rfl) (by kernel_rfl) (fun _ _ _ h => h) (Or.inl ⟨by rfl, ?yg15_11z12⟩) (by assumption) ?rg15_11z12
        case yg15_11z12 => (intro w hSw; (try dsimp only at hSw); go_simp; first | (rw [if_neg (by omega)]) | (with_reducible rfl) | skip)
        simp only [Act.put, List.getElem_toArray, List.getElem_cons_succ, List.getElem_cons_zero, List.setIfInBounds_toArray, List.set_cons_zero, List.set_cons_succ]
        refine wpAnyH_ready (rs := [12, 18]) (by kernel_rfl) (by simp) ?_
        refine (AllReadyH.cons rfl (fun K' hK => ?_) (AllReadyH.cons rfl (fun K' hK => ?_) AllReadyH.nil))
        · go_simp
          go_at_call 14
          refine (HT.out _).mono ?_
          rintro e u ⟨⟨a0, b0, rfl, ht⟩, hg⟩
          have GU := Lib.hid hg
          have ZU : Hid (wc.grownBy u none) := Lib.hid ((grown_drewT (grown_reflX _ _)).trans hg)
          have HT0 := Lib.hid ht
          clear ht hg
          refine hK.out _ _ ZU (fun hHeld => ?_)
          clear hK K'
          simp only [List.setIfInBounds_toArray, List.set_cons_zero, List.set_cons_succ]
          refine wpAnyH_ready (rs := [13, 18]) (by kernel_rfl) (by simp) ?_
          refine (AllReadyH.cons rfl (fun K' hK => ?_) (AllReadyH.cons rfl (fun K' hK => ?_) AllReadyH.nil))
          · go_simp
            go_at_call 9
            refine (H1.out a0 b0 _ (D5.out.trans ZU.out) HT0.out).mono ?_
            rintro e v ⟨hg, y, rfl⟩
            have GV := Lib.hid hg
            have ZV : Hid (wc.grownBy v none) := Lib.hid (ZU.out.trans hg)
            clear hg
            refine hK.out _ _ ZV (fun hHeld => ?_)
            clear hK K'
            simp only [List.setIfInBounds_toArray, List.set_cons_zero, List.set_cons_succ]
            refine wpAnyH_take (i := 14) (v := ?vg15_14z13) rfl (by kernel_rfl) (by kernel_rfl) (by kernel_rfl) (fun _ _ _ h => h) (Or.inl ⟨by rfl, ?yg15_14z13⟩) (by assumption) ?rg15_14z13
            case yg15_14z13 => (intro w hSw; (try dsimp only at hSw); go_simp; first | (rw [if_neg (by omega)]) | (with_reducible rfl) | skip)
            simp only [Act.put, List.getElem_toArray, List.getElem_cons_succ, List.getElem_cons_zero, List.setIfInBounds_toArray, List.set_cons_zero, List.set_cons_succ]
            refine wpAnyH_take (i := 15) (v := ?vg15_15z14) rfl (by kernel_rfl) (by kernel_rfl) (by kernel_rfl) (fun _ _ _ h => h) (Or.inl ⟨by rfl, ?yg15_15z14⟩) (by assumption) ?rg15_15z14
            case yg15_15z14 => (intro w hSw; (try dsimp only at hSw); go_simp; first | (rw [if_neg (by omega)]) | (with_reducible rfl) | skip)
            simp only [Act.put, List.getElem_toArray, List.getElem_cons_succ, List.getElem_cons_zero, List.setIfInBounds_toArray, List.set_cons_zero, List.set_cons_succ]
            refine wpAnyH_take (i := 16) (v := ?vg15_16z15) rfl (by kernel_rfl) (by kernel_rfl) (by kernel_rfl) (fun _ _ _ h => h) (Or.inl ⟨by rfl, ?yg15_16z15⟩) (by assumption) ?rg15_16z15
            case yg15_16z15 => (intro w hSw; (try dsimp only at hSw); go_simp; first | (rw [if_neg (by omega)]) | (with_reducible rfl) | skip)
            simp only [Act.put, List.getElem_toArray, List.getElem_cons_succ, List.getElem_cons_zero, List.setIfInBounds_toArray, List.set_cons_zero, List.set_cons_succ]
            refine wpAnyH_take (i := 17) (v := ?vg15_17z16) rfl (by kernel_rfl) (by kernel_rfl) (by kernel_rfl) (fun _ _ _ h => h) (Or.inl ⟨by rfl, ?yg15_17z16⟩) (by assumption) ?rg15_17z16
            case yg15_17z16 => (intro w hSw; (try dsimp only at hSw); go_simp; first | (rw [if_neg (by omega)]) | (with_reducible rfl) | skip)
            simp only [Act.put, List.getElem_toArray, List.getElem_cons_succ, List.getElem_cons_zero, List.setIfInBounds_toArray, List.set_cons_zero, List.set_cons_succ]
            refine wpAnyH_ready (rs := [18]) (by kernel_rfl) (by simp) ?_
            refine AllReadyH.cons rfl (fun K' hK => ?_) AllReadyH.nil
            go_simp
            skip
            refine hK.out _ _ (Lib.hid (ZV.out.trans (World.grownBy_alloc _ _ none))) (fun hHeld => ?_)
            clear hK K'
            simp only [List.setIfInBounds_toArray, List.set_cons_zero, List.set_cons_succ]
            refine wpAnyH_ready (rs := [19]) (by kernel_rfl) (by simp) ?_
            refine AllReadyH.cons rfl (fun K' hK => ?_) AllReadyH.nil
            refine wp_store_row 36 (.tmp 14) (.tmp 70) rfl _ y.c (by rfl) (by rfl) 36 (Qm.z 0).c (heap_alloc_new _ _) (by rw [Qm.c_size]; exact query_size) (by rw [Qm.c_size, Qm.c_size]) (Qm.c_all _) ?_
            refine hK.out _ _ (Lib.hid (grown_thenX (ZV.out.trans (World.grownBy_alloc _ _ none)) (grown_setRow _ _ _) (fun j e => by cases e; exact ZV.out.size))) (fun hHeld => ?_)
            clear hK K'
            simp only [Act.put, List.getElem_toArray, List.getElem_cons_succ, List.getElem_cons_zero, List.setIfInBounds_toArray, List.set_cons_zero, List.set_cons_succ]
            refine wpAnyH_take (i := 20) (v := ?vg15_20z17) rfl (by kernel_rfl) (by kernel_rfl) (by kernel_rfl) (fun _ _ _ h => h) (Or.inl ⟨by rfl, ?yg15_20z17⟩) (by assumption) ?rg15_20z17
            case yg15_20z17 => (intro w hSw; (try dsimp only at hSw); go_simp; first | (rw [if_neg (by omega)]) | (with_reducible rfl) | skip)
            simp only [Act.put, List.getElem_toArray, List.getElem_cons_succ, List.getElem_cons_zero, List.setIfInBounds_toArray, List.set_cons_zero, List.set_cons_succ]
            refine wpAnyH_take (i := 21) (v := ?vg15_21z18) rfl (by kernel_rfl) (by kernel_rfl) (by kernel_rfl) (fun _ _ _ h => h) (Or.inl ⟨by rfl, ?yg15_21z18⟩) (by assumption) ?rg15_21z18
            case yg15_21z18 => (intro w hSw; (try dsimp only at hSw); go_simp; first | (rw [if_neg (by omega)]) | (with_reducible rfl) | skip)
            simp only [Act.put, List.getElem_toArray, List.getElem_cons_succ, List.getElem_cons_zero, List.setIfInBounds_toArray, List.set_cons_zero, List.set_cons_succ]
            refine wpAnyH_done (by kernel_rfl) ?_ _
            go_wp2_with fail
            go_meet
            exact ⟨rfl, rfl, Lib.hid (grown_thenX (ZV.out.trans (World.grownBy_alloc _ _ none)) (grown_setRow _ _ _) (fun j e => by cases e; first | exact Nat.le_refl _ | exact ZU.out.size | exact ZV.out.size))⟩
          · go_simp
            skip
            refine hK.out _ _ (Lib.hid (ZU.out.trans (World.grownBy_alloc _ _ none))) (fun hHeld => ?_)
            clear hK K'
            simp only [List.setIfInBounds_toArray, List.set_cons_zero, List.set_cons_succ]
            refine wpAnyH_ready (rs := [13]) (by kernel_rfl) (by simp) ?_
            refine AllReadyH.cons rfl (fun K' hK => ?_) AllReadyH.nil
            go_simp
            go_at_call 9
            refine (H1.out a0 b0 _ (D5.out.trans (ZU.out.trans (World.grownBy_alloc _ _ none))) (tabs_keptG HT0.out (World.grownBy_alloc _ _ none))).mono ?_
            rintro e v ⟨hg, y, rfl⟩
            have GV := Lib.hid hg
            have ZV : Hid (wc.grownBy v none) := Lib.hid ((ZU.out.trans (World.grownBy_alloc _ _ none)).trans hg)
            clear hg
            refine hK.out _ _ ZV (fun hHeld => ?_)
            clear hK K'
            simp only [List.setIfInBounds_toArray, List.set_cons_zero, List.set_cons_succ]
            refine wpAnyH_take (i := 14) (v := ?vg15_14z19) rfl (by kernel_rfl) (by kernel_rfl) (by kernel_rfl) (fun _ _ _ h => h) (Or.inl ⟨by rfl, ?yg15_14z19⟩) (by assumption) ?rg15_14z19
            case yg15_14z19 => (intro w hSw; (try dsimp only at hSw); go_simp; first | (rw [if_neg (by omega)]) | (with_reducible rfl) | skip)
            simp only [Act.put, List.getElem_toArray, List.getElem_cons_succ, List.getElem_cons_zero, List.setIfInBounds_toArray, List.set_cons_zero, List.set_cons_succ]
            refine wpAnyH_take (i := 15) (v := ?vg15_15z20) rfl (by kernel_rfl) (by kernel_rfl) (by kernel_rfl) (fun _ _ _ h => h) (Or.inl ⟨by rfl, ?yg15_15z20⟩) (by assumption) ?rg15_15z20
            case yg15_15z20 => (intro w hSw; (try dsimp only at hSw); go_simp; first | (rw [if_neg (by omega)]) | (with_reducible rfl) | skip)
            simp only [Act.put, List.getElem_toArray, List.getElem_cons_succ, List.getElem_cons_zero, List.setIfInBounds_toArray, List.set_cons_zero, List.set_cons_succ]
            refine wpAnyH_take (i := 16) (v := ?vg15_16z21) rfl (by kernel_rfl) (by kernel_rfl) (by kernel_rfl) (fun _ _ _ h => h) (Or.inl ⟨by rfl, ?yg15_16z21⟩) (by assumption) ?rg15_16z21
            case yg15_16z21 => (intro w hSw; (try dsimp only at hSw); go_simp; first | (rw [if_neg (by omega)]) | (with_reducible rfl) | skip)
            simp only [Act.put, List.getElem_toArray, List.getElem_cons_succ, List.getElem_cons_zero, List.setIfInBounds_toArray, List.set_cons_zero, List.set_cons_succ]
            refine wpAnyH_take (i := 17) (v := ?vg15_17z22) rfl (by kernel_rfl) (by kernel_rfl) (by kernel_rfl) (fun _ _ _ h => h) (Or.inl ⟨by rfl, ?yg15_17z22⟩) (by assumption) ?rg15_17z22
            case yg15_17z22 => (intro w hSw; (try dsimp only at hSw); go_simp; first | (rw [if_neg (by omega)]) | (with_reducible rfl) | skip)
            simp only [Act.put, List.getElem_toArray, List.getElem_cons_succ, List.getElem_cons_zero, List.setIfInBounds_toArray, List.set_cons_zero, List.set_cons_succ]
            refine wpAnyH_ready (rs := [19]) (by kernel_rfl) (by simp) ?_
            refine AllReadyH.cons rfl (fun K' hK => ?_) AllReadyH.nil
            refine wp_store_row 36 (.tmp 14) (.tmp 70) rfl _ y.c (by rfl) (by rfl) 36 (Qm.z 0).c (blk_grown GV.out (heap_alloc_new _ _)) (by rw [Qm.c_size]; exact query_size) (by rw [Qm.c_size, Qm.c_size]) (Qm.c_all _) ?_
            refine hK.out _ _ (Lib.hid (grown_thenX ZV.out (grown_setRow _ _ _) (fun j e => by cases e; exact ZU.out.size))) (fun hHeld => ?_)
            clear hK K'
            simp only [Act.put, List.getElem_toArray, List.getElem_cons_succ, List.getElem_cons_zero, List.setIfInBounds_toArray, List.set_cons_zero, List.set_cons_succ]
            refine wpAnyH_take (i := 20) (v := ?vg15_20z23) rfl (by kernel_rfl) (by kernel_rfl) (by kernel_rfl) (fun _ _ _ h => h) (Or.inl ⟨by rfl, ?yg15_20z23⟩) (by assumption) ?rg15_20z23
            case yg15_20z23 => (intro w hSw; (try dsimp only at hSw); go_simp; first | (rw [if_neg (by omega)]) | (with_reducible rfl) | skip)
            simp only [Act.put, List.getElem_toArray, List.getElem_cons_succ, List.getElem_cons_zero, List.setIfInBounds_toArray, List.set_cons_zero, List.set_cons_succ]
            refine wpAnyH_take (i := 21) (v := ?vg15_21z24) rfl (by kernel_rfl) (by kernel_rfl) (by kernel_rfl) (fun _ _ _ h => h) (Or.inl ⟨by rfl, ?yg15_21z24⟩) (by assumption) ?rg15_21z24
            case yg15_21z24 => (intro w hSw; (try dsimp only at hSw); go_simp; first | (rw [if_neg (by omega)]) | (with_reducible rfl) | skip)
            simp only [Act.put, List.getElem_toArray, List.getElem_cons_succ, List.getElem_cons_zero, List.setIfInBounds_toArray, List.set_cons_zero, List.set_cons_succ]
            refine wpAnyH_done (by kernel_rfl) ?_ _
            go_wp2_with fail
            go_meet
            exact ⟨rfl, rfl, Lib.hid (grown_thenX ZV.out (grown_setRow _ _ _) (fun j e => by cases e; first | exact Nat.le_refl _ | exact ZU.out.size | exact ZV.out.size))⟩
        · go_simp
          skip
          refine hK.out _ _ (Lib.hid ((grown_drewT (grown_reflX _ _)).trans (World.grownBy_alloc _ _ none))) (fun hHeld => ?_)
          clear hK K'
          simp only [List.setIfInBounds_toArray, List.set_cons_zero, List.set_cons_succ]
          refine wpAnyH_ready (rs := [12]) (by kernel_rfl) (by simp) ?_
          refine AllReadyH.cons rfl (fun K' hK => ?_) AllReadyH.nil
          go_simp
          go_at_call 14
          refine (HT.out _).mono ?_
          rintro e u ⟨⟨a0, b0, rfl, ht⟩, hg⟩
          have GU := Lib.hid hg
          have ZU : Hid (wc.grownBy u none) := Lib.hid (((grown_drewT (grown_reflX _ _)).trans (World.grownBy_alloc _ _ none)).trans hg)
          have HT0 := Lib.hid ht
          clear ht hg
          refine hK.out _ _ ZU (fun hHeld => ?_)
          clear hK K'
          simp only [List.setIfInBounds_toArray, List.set_cons_zero, List.set_cons_succ]
          refine wpAnyH_ready (rs := [13]) (by kernel_rfl) (by simp) ?_
          refine AllReadyH.cons rfl (fun K' hK => ?_) AllReadyH.nil
          go_simp
          go_at_call 9
          refine (H1.out a0 b0 _ (D5.out.trans ZU.out) HT0.out).mono ?_
          rintro e v ⟨hg, y, rfl⟩
          have GV := Lib.hid hg
          have ZV : Hid (wc.grownBy v none) := Lib.hid (ZU.out.trans hg)
          clear hg
          refine hK.out _ _ ZV (fun hHeld => ?_)
          clear hK K'
          simp only [List.setIfInBounds_toArray, List.set_cons_zero, List.set_cons_succ]
          refine wpAnyH_take (i := 14) (v := ?vg15_14z25) rfl (by kernel_rfl) (by kernel_rfl) (by kernel_rfl) (fun _ _ _ h => h) (Or.inl ⟨by rfl, ?yg15_14z25⟩) (by assumption) ?rg15_14z25
          case yg15_14z25 => (intro w hSw; (try dsimp only at hSw); go_simp; first | (rw [if_neg (by omega)]) | (with_reducible rfl) | skip)
          simp only [Act.put, List.getElem_toArray, List.getElem_cons_succ, List.getElem_cons_zero, List.setIfInBounds_toArray, List.set_cons_zero, List.set_cons_succ]
          refine wpAnyH_take (i := 15) (v := ?vg15_15z26) rfl (by kernel_rfl) (by kernel_rfl) (by kernel_rfl) (fun _ _ _ h => h) (Or.inl ⟨by rfl, ?yg15_15z26⟩) (by assumption) ?rg15_15z26
          case yg15_15z26 => (intro w hSw; (try dsimp only at hSw); go_simp; first | (rw [if_neg (by omega)]) | (with_reducible rfl) | skip)
          simp only [Act.put, List.getElem_toArray, List.getElem_cons_succ, List.getElem_cons_zero, List.setIfInBounds_toArray, List.set_cons_zero, List.set_cons_succ]
          refine wpAnyH_take (i := 16) (v := ?vg15_16z27) rfl (by kernel_rfl) (by kernel_rfl) (by kernel_rfl) (fun _ _ _ h => h) (Or.inl ⟨by rfl, ?yg15_16z27⟩) (by assumption) ?rg15_16z27
          case yg15_16z27 => (intro w hSw; (try dsimp only at hSw); go_simp; first | (rw [if_neg (by omega)]) | (with_reducible rfl) | skip)
          simp only [Act.put, List.getElem_toArray, List.getElem_cons_succ, List.getElem_cons_zero, List.setIfInBounds_toArray, List.set_cons_zero, List.set_cons_succ]
          refine wpAnyH_take (i := 17) (v := ?vg15_17z28) rfl (by kernel_rfl) (by kernel_rfl) (by kernel_rfl) (fun _ _ _ h => h) (Or.inl ⟨by rfl, ?yg15_17z28⟩) (by assumption) ?rg15_17z28
          case yg15_17z28 => (intro w hSw; (try dsimp only at hSw); go_simp; first | (rw [if_neg (by omega)]) | (with_reducible rfl) | skip)
          simp only [Act.put, List.getElem_toArray, List.getElem_cons_succ, List.getElem_cons_zero, List.setIfInBounds_toArray, List.set_cons_zero, List.set_cons_succ]
          refine wpAnyH_ready (rs := [19]) (by kernel_rfl) (by simp) ?_
          refine AllReadyH.cons rfl (fun K' hK => ?_) AllReadyH.nil
          refine wp_store_row 36 (.tmp 14) (.tmp 70) rfl _ y.c (by rfl) (by rfl) 36 (Qm.z 0).c (blk_grown (GU.out.trans GV.out) (heap_alloc_new _ _)) (by rw [Qm.c_size]; exact query_size) (by rw [Qm.c_size, Qm.c_size]) (Qm.c_all _) ?_
          refine hK.out _ _ (Lib.hid (grown_thenX ZV.out (grown_setRow _ _ _) (fun j e => by cases e; exact Nat.le_refl _))) (fun hHeld => ?_)
          clear hK K'
          simp only [Act.put, List.getElem_toArray, List.getElem_cons_succ, List.getElem_cons_zero, List.setIfInBounds_toArray, List.set_cons_zero, List.set_cons_succ]
          refine wpAnyH_take (i := 20) (v := ?vg15_20z29) rfl (by kernel_rfl) (by kernel_rfl) (by kernel_rfl) (fun _ _ _ h => h) (Or.inl ⟨by rfl, ?yg15_20z29⟩) (by assumption) ?rg15_20z29
          case yg15_20z29 => (intro w hSw; (try dsimp only at hSw); go_simp; first | (rw [if_neg (by omega)]) | (with_reducible rfl) | skip)
          simp only [Act.put, List.getElem_toArray, List.getElem_cons_succ, List.getElem_cons_zero, List.setIfInBounds_toArray, List.set_cons_zero, List.set_cons_succ]
          refine wpAnyH_take (i := 21) (v := ?vg15_21z30) rfl (by kernel_rfl) (by kernel_rfl) (by kernel_rfl) (fun _ _ _ h => h) (Or.inl ⟨by rfl, ?yg15_21z30⟩) (by assumption) ?rg15_21z30
          case yg15_21z30 => (intro w hSw; (try dsimp only at hSw); go_simp; first | (rw [if_neg (by omega)]) | (with_reducible rfl) | skip)
          simp only [Act.put, List.getElem_toArray, List.getElem_cons_succ, List.getElem_cons_zero, List.setIfInBounds_toArray, List.set_cons_zero, List.set_cons_succ]
          refine wpAnyH_done (by kernel_rfl) ?_ _
          go_wp2_with fail
          go_meet
          exact ⟨rfl, rfl, Lib.hid (grown_thenX ZV.out (grown_setRow _ _ _) (fun j e => by cases e; first | exact Nat.le_refl _ | exact ZU.out.size | exact ZV.out.size))⟩
      case rest =>
      obtain ⟨rfl, rfl, hG⟩ := hcut
      have D5 := Lib.hid (D5.out.trans hG.out)
      have B5 := Lib.hid (hG.out.cell B5.out (by simp))
      have C : Hid (∀ i, i < 4 → wc.cell? ⟨w1.heap.size, i, none⟩ = some (.string (nmG i))) := Lib.hid fun i hi => hG.out.cell (C.out i hi) (by simp)
      clear hG
      go_upto_region 16 with fail
      go_cut [17] from 73 (fun x wx => x = .bool (bi && bk) ∧ Hid (wc.grownBy wx none))
      case first => as_aux_lemma =>
        go_wp2_with fail
        refine (HI1.out _ _ B5.out).mono ?_
        rintro e v ⟨rfl, hg⟩
        have GV := Lib.hid hg
        clear hg
        cases bi with
        | false =>
          go_wp2_with fail
          go_meet
          exact ⟨rfl, GV⟩
        | true =>
          go_wp2_with fail
          refine (HI2.out _ _ (GV.out.cell B5.out (by simp))).mono ?_
          rintro e u ⟨rfl, hg⟩
          have GU := Lib.hid hg
          clear hg
          go_wp2_with fail
          go_meet
          exact ⟨by simp, Lib.hid (GV.out.trans GU.out)⟩
      case rest =>
      obtain ⟨rfl, hG⟩ := hcut
      have D5 := Lib.hid (D5.out.trans hG.out)
      have B5 := Lib.hid (hG.out.cell B5.out (by simp))
      have C : Hid (∀ i, i < 4 → wc.cell? ⟨w1.heap.size, i, none⟩ = some (.string (nmG i))) := Lib.hid fun i hi => hG.out.cell (C.out i hi) (by simp)
      clear hG
      go_upto_region 17 with fail
      obtain ⟨gd, hgd⟩ : ∃ x, x = (bi && bk) := ⟨_, rfl⟩
      rw [← hgd] at O1 ⊢
      clear hgd
      go_cut [101] from 102 (fun x wx => x = .bool false ∧ Hid (wc.grownBy wx none))
      case first => as_aux_lemma =>
        rcases O1.out with ⟨rfl, rfl⟩ | ⟨rfl, rfl, hp⟩
        · go_wp2_with fail
          go_meet
          exact ⟨rfl, Lib.hid (grown_reflX _ _)⟩
        · go_wp2_with fail
          refine (HI1.out _ _ B5.out).mono ?_
          rintro e v ⟨rfl, hg⟩
          have GV := Lib.hid hg
          clear hg
          go_wp2_with fail
          go_meet
          exact ⟨by simp, GV⟩
      case rest =>
      obtain ⟨rfl, hG⟩ := hcut
      have D5 := Lib.hid (D5.out.trans hG.out)
      have B5 := Lib.hid (hG.out.cell B5.out (by simp))
      have C : Hid (∀ i, i < 4 → wc.cell? ⟨w1.heap.size, i, none⟩ = some (.string (nmG i))) := Lib.hid fun i hi => hG.out.cell (C.out i hi) (by simp)
      clear hG
      go_upto_region 19 with fail
      go_cut [18, 19, 20] from 102 (fun _ y x wx => x = .int .i64 ((0 : Nat) : Int) ∧ Hid (wc.grownBy wx none))
      case first => as_aux_lemma =>
        refine wp_region_held_drew (S := (fun W => Hid (wc.grownBy W none))) (by kernel_rfl) (Lib.hid (grown_drewT (grown_reflX _ _))) (fun hHeld => ?_)
        refine wpAnyH_take (i := 0) (v := ?vg19_0z1) rfl (by kernel_rfl) (by kernel_rfl) (by kernel_rfl) (fun _ _ _ h => h) (Or.inl ⟨by rfl, ?yg19_0z1⟩) (by assumption) ?rg19_0z1
        case yg19_0z1 => (intro w hSw; (try dsimp only at hSw); go_simp; first | (rw [if_neg (by omega)]) | (with_reducible rfl) | skip)
        simp only [Act.put, List.getElem_toArray, List.getElem_cons_zero, List.size_toArray, List.length_cons, List.length_nil, Nat.reduceAdd, Array.replicate, List.replicate, List.setIfInBounds_toArray, List.set_cons_zero, List.set_cons_succ]
        refine wpAnyH_take (i := 1) (v := ?vg19_1z2) rfl (by kernel_rfl) (by kernel_rfl) (by kernel_rfl) (fun _ _ _ h => h) (Or.inl ⟨by rfl, ?yg19_1z2⟩) (by assumption) ?rg19_1z2
        case yg19_1z2 => (intro w hSw; (try dsimp only at hSw); go_simp; first | (rw [if_neg (by omega)]) | (with_reducible rfl) | skip)
        simp only [Act.put, List.getElem_toArray, List.getElem_cons_succ, List.getElem_cons_zero, List.setIfInBounds_toArray, List.set_cons_zero, List.set_cons_succ]
        refine wpAnyH_take (i := 2) (v := ?vg19_2z3) rfl (by kernel_rfl) (by kernel_rfl) (by kernel_rfl) (fun _ _ _ h => h) (Or.inl ⟨by rfl, ?yg19_2z3⟩) (by assumption) ?rg19_2z3
        case yg19_2z3 => (intro w hSw; have h0 := hSw.out.cell (C.out i hi4) (by simp); clear hSw; go_simp; first | (rw [if_neg (by omega)]) | (with_reducible rfl) | skip)
        simp only [Act.put, List.getElem_toArray, List.getElem_cons_succ, List.getElem_cons_zero, List.setIfInBounds_toArray, List.set_cons_zero, List.set_cons_succ]
        refine wpAnyH_take (i := 3) (v := ?vg19_3z4) rfl (by kernel_rfl) (by kernel_rfl) (by kernel_rfl) (fun _ _ _ h => h) (Or.inl ⟨by rfl, ?yg19_3z4⟩) (by assumption) ?rg19_3z4
        case yg19_3z4 => (intro w hSw; (try dsimp only at hSw); go_simp; first | (rw [if_neg (by omega)]) | (with_reducible rfl) | skip)
        simp only [Act.put, List.getElem_toArray, List.getElem_cons_succ, List.getElem_cons_zero, List.setIfInBounds_toArray, List.set_cons_zero, List.set_cons_succ]
        refine wpAnyH_take (i := 4) (v := ?vg19_4z5) rfl (by kernel_rfl) (by kernel_rfl) (by kernel_rfl) (fun _ _ _ h => h) (Or.inl ⟨by rfl, ?yg19_4z5⟩) (by assumption) ?rg19_4z5
        case yg19_4z5 => (intro w hSw; (try dsimp only at hSw); go_simp; first | (rw [if_neg (by omega)]) | (with_reducible rfl) | skip)
        simp only [Act.put, List.getElem_toArray, List.getElem_cons_succ, List.getElem_cons_zero, List.setIfInBounds_toArray, List.set_cons_zero, List.set_cons_succ]
        refine wpAnyH_take (i := 5) (v := ?vg19_5z6) rfl (by kernel_rfl) (by kernel_rfl) (by kernel_rfl) (fun _ _ _ h => h) (Or.inl ⟨by rfl, ?yg19_5z6⟩) (by assumption) ?rg19_5z6
        case yg19_5z6 => (intro w hSw; (try dsimp only at hSw); go_simp; first | (rw [if_neg (by omega)]) | (with_reducible rfl) | skip)
        simp only [Act.put, List.getElem_toArray, List.getElem_cons_succ, List.getElem_cons_zero, List.setIfInBounds_toArray, List.set_cons_zero, List.set_cons_succ]
        refine wpAnyH_take (i := 6) (v := ?vg19_6z7) rfl (by kernel_rfl) (by kernel_rfl) (by kernel_rfl) (fun _ _ _ h => h) (Or.inl ⟨by rfl, ?yg19_6z7⟩) (by assumption) ?rg19_6z7
        case yg19_6z7 => (intro w hSw; (try dsimp only at hSw); go_simp; first | (rw [if_neg (by omega)]) | (with_reducible rfl) | skip)
        simp only [Act.put, List.getElem_toArray, List.getElem_cons_succ, List.getElem_cons_zero, List.setIfInBounds_toArray, List.set_cons_zero, List.set_cons_succ]
        refine wpAnyH_take (i := 7) (v := ?vg19_7z8) rfl (by kernel_rfl) (by kernel_rfl) (by kernel_rfl) (fun _ _ _ h => h) (Or.inl ⟨by rfl, ?yg19_7z8⟩) (by assumption) ?rg19_7z8
        case yg19_7z8 => (intro w hSw; have h0 := hSw.out.cell (C.out k hk4) (by simp); clear hSw; go_simp; first | (rw [if_neg (by omega)]) | (with_reducible rfl) | skip)
        simp only [Act.put, List.getElem_toArray, List.getElem_cons_succ, List.getElem_cons_zero, List.setIfInBounds_toArray, List.set_cons_zero, List.set_cons_succ]
        refine wpAnyH_take (i := 8) (v := ?vg19_8z9) rfl (by kernel_rfl) (by kernel_rfl) (by kernel_rfl) (fun _ _ _ h => h) (Or.inl ⟨by rfl, ?yg19_8z9⟩) (by assumption) ?rg19_8z9
        case yg19_8z9 => (intro w hSw; (try dsimp only at hSw); go_simp; first | (rw [if_neg (by omega)]) | (with_reducible rfl) | skip)
        simp only [Act.put, List.getElem_toArray, List.getElem_cons_succ, List.getElem_cons_zero, List.setIfInBounds_toArray, List.set_cons_zero, List.set_cons_succ]
        refine wpAnyH_ready (rs := [9, 15]) (by kernel_rfl) (by simp) ?_
        refine (AllReadyH.cons rfl (fun K' hK => ?_) (AllReadyH.cons rfl (fun K' hK => ?_) AllReadyH.nil))
        · go_simp
          go_at_call 14
          refine (HT.out _).mono ?_
          rintro e u ⟨⟨a0, b0, rfl, ht⟩, hg⟩
          have GU := Lib.hid hg
          have ZU : Hid (wc.grownBy u none) := Lib.hid ((grown_drewT (grown_reflX _ _)).trans hg)
          have HT0 := Lib.hid ht
          clear ht hg
          refine hK.out _ _ ZU (fun hHeld => ?_)
          clear hK K'
          simp only [List.setIfInBounds_toArray, List.set_cons_zero, List.set_cons_succ]
          refine wpAnyH_ready (rs := [10, 15]) (by kernel_rfl) (by simp) ?_
          refine (AllReadyH.cons rfl (fun K' hK => ?_) (AllReadyH.cons rfl (fun K' hK => ?_) AllReadyH.nil))
          · go_simp
            go_at_call 9
            refine (H2.out a0 b0 _ (D5.out.trans ZU.out) HT0.out).mono ?_
            rintro e v ⟨hg, y, p, rfl⟩
            have GV := Lib.hid hg
            have ZV : Hid (wc.grownBy v none) := Lib.hid (ZU.out.trans hg)
            clear hg
            refine hK.out _ _ ZV (fun hHeld => ?_)
            clear hK K'
            simp only [List.setIfInBounds_toArray, List.set_cons_zero, List.set_cons_succ]
            refine wpAnyH_take (i := 11) (v := ?vg19_11z10) rfl (by kernel_rfl) (by kernel_rfl) (by kernel_rfl) (fun _ _ _ h => h) (Or.inl ⟨by rfl, ?yg19_11z10⟩) (by assumption) ?rg19_11z10
            case yg19_11z10 => (intro w hSw; (try dsimp only at hSw); go_simp; first | (rw [if_neg (by omega)]) | (with_reducible rfl) | skip)
            simp only [Act.put, List.getElem_toArray, List.getElem_cons_succ, List.getElem_cons_zero, List.setIfInBounds_toArray, List.set_cons_zero, List.set_cons_succ]
            refine wpAnyH_take (i := 12) (v := ?vg19_12z11) rfl (by kernel_rfl) (by kernel_rfl) (by kernel_rfl) (fun _ _ _ h => h) (Or.inl ⟨by rfl, ?yg19_12z11⟩) (by assumption) ?rg19_12z11
            case yg19_12z11 => (intro w hSw; (try dsimp only at hSw); go_simp; first | (rw [if_neg (by omega)]) | (with_reducible rfl) | skip)
            simp only [Act.put, List.getElem_toArray, List.getElem_cons_succ, List.getElem_cons_zero, List.setIfInBounds_toArray, List.set_cons_zero, List.set_cons_succ]
            refine wpAnyH_take (i := 13) (v := ?vg19_13z12) rfl (by kernel_rfl) (by kernel_rfl) (by kernel_rfl) (fun _ _ _ h => h) (Or.inl ⟨by rfl, ?yg19_13z12⟩) (by assumption) ?rg19_13z12
            case yg19_13z12 => (intro w hSw; (try dsimp only at hSw); go_simp; first | (rw [if_neg (by omega)]) | (with_reducible rfl) | skip)
            simp only [Act.put, List.getElem_toArray, List.getElem_cons_succ, List.getElem_cons_zero, List.setIfInBounds_toArray, List.set_cons_zero, List.set_cons_succ]
            refine wpAnyH_take (i := 14) (v := ?vg19_14z13) rfl (by kernel_rfl) (by kernel_rfl) (by kernel_rfl) (fun _ _ _ h => h) (Or.inl ⟨by rfl, ?yg19_14z13⟩) (by assumption) ?rg19_14z13
            case yg19_14z13 => (intro w hSw; (try dsimp only at hSw); go_simp; first | (rw [if_neg (by omega)]) | (with_reducible rfl) | skip)
            simp only [Act.put, List.getElem_toArray, List.getElem_cons_succ, List.getElem_cons_zero, List.setIfInBounds_toArray, List.set_cons_zero, List.set_cons_succ]
            refine wpAnyH_ready (rs := [15]) (by kernel_rfl) (by simp) ?_
            refine AllReadyH.cons rfl (fun K' hK => ?_) AllReadyH.nil
            go_simp
            skip
            refine hK.out _ _ (Lib.hid (ZV.out.trans (World.grownBy_alloc _ _ none))) (fun hHeld => ?_)
            clear hK K'
            simp only [List.setIfInBounds_toArray, List.set_cons_zero, List.set_cons_succ]
            refine wpAnyH_ready (rs := [16]) (by kernel_rfl) (by simp) ?_
            refine AllReadyH.cons rfl (fun K' hK => ?_) AllReadyH.nil
            refine wp_store_row 36 (.tmp 18) (.tmp 114) rfl _ y.c (by rfl) (by rfl) 36 (Qm.z 0).c (heap_alloc_new _ _) (by rw [Qm.c_size]; exact query_size) (by rw [Qm.c_size, Qm.c_size]) (Qm.c_all _) ?_
            refine hK.out _ _ (Lib.hid (grown_thenX (ZV.out.trans (World.grownBy_alloc _ _ none)) (grown_setRow _ _ _) (fun j e => by cases e; exact ZV.out.size))) (fun hHeld => ?_)
            clear hK K'
            simp only [Act.put, List.getElem_toArray, List.getElem_cons_succ, List.getElem_cons_zero, List.setIfInBounds_toArray, List.set_cons_zero, List.set_cons_succ]
            refine wpAnyH_take (i := 17) (v := ?vg19_17z14) rfl (by kernel_rfl) (by kernel_rfl) (by kernel_rfl) (fun _ _ _ h => h) (Or.inl ⟨by rfl, ?yg19_17z14⟩) (by assumption) ?rg19_17z14
            case yg19_17z14 => (intro w hSw; (try dsimp only at hSw); go_simp; first | (rw [if_neg (by omega)]) | (with_reducible rfl) | skip)
            simp only [Act.put, List.getElem_toArray, List.getElem_cons_succ, List.getElem_cons_zero, List.setIfInBounds_toArray, List.set_cons_zero, List.set_cons_succ]
            refine wpAnyH_take (i := 18) (v := ?vg19_18z15) rfl (by kernel_rfl) (by kernel_rfl) (by kernel_rfl) (fun _ _ _ h => h) (Or.inl ⟨by rfl, ?yg19_18z15⟩) (by assumption) ?rg19_18z15
            case yg19_18z15 => (intro w hSw; (try dsimp only at hSw); go_simp; first | (rw [if_neg (by omega)]) | (with_reducible rfl) | skip)
            simp only [Act.put, List.getElem_toArray, List.getElem_cons_succ, List.getElem_cons_zero, List.setIfInBounds_toArray, List.set_cons_zero, List.set_cons_succ]
            refine wpAnyH_done (by kernel_rfl) ?_ _
            go_wp2_with fail
            go_meet
            exact ⟨rfl, Lib.hid (grown_thenX (ZV.out.trans (World.grownBy_alloc _ _ none)) (grown_setRow _ _ _) (fun j e => by cases e; first | exact Nat.le_refl _ | exact ZU.out.size | exact ZV.out.size))⟩
          · go_simp
            skip
            refine hK.out _ _ (Lib.hid (ZU.out.trans (World.grownBy_alloc _ _ none))) (fun hHeld => ?_)
            clear hK K'
            simp only [List.setIfInBounds_toArray, List.set_cons_zero, List.set_cons_succ]
            refine wpAnyH_ready (rs := [10]) (by kernel_rfl) (by simp) ?_
            refine AllReadyH.cons rfl (fun K' hK => ?_) AllReadyH.nil
            go_simp
            go_at_call 9
            refine (H2.out a0 b0 _ (D5.out.trans (ZU.out.trans (World.grownBy_alloc _ _ none))) (tabs_keptG HT0.out (World.grownBy_alloc _ _ none))).mono ?_
            rintro e v ⟨hg, y, p, rfl⟩
            have GV := Lib.hid hg
            have ZV : Hid (wc.grownBy v none) := Lib.hid ((ZU.out.trans (World.grownBy_alloc _ _ none)).trans hg)
            clear hg
            refine hK.out _ _ ZV (fun hHeld => ?_)
            clear hK K'
            simp only [List.setIfInBounds_toArray, List.set_cons_zero, List.set_cons_succ]
            refine wpAnyH_take (i := 11) (v := ?vg19_11z16) rfl (by kernel_rfl) (by kernel_rfl) (by kernel_rfl) (fun _ _ _ h => h) (Or.inl ⟨by rfl, ?yg19_11z16⟩) (by assumption) ?rg19_11z16
            case yg19_11z16 => (intro w hSw; (try dsimp only at hSw); go_simp; first | (rw [if_neg (by omega)]) | (with_reducible rfl) | skip)
            simp only [Act.put, List.getElem_toArray, List.getElem_cons_succ, List.getElem_cons_zero, List.setIfInBounds_toArray, List.set_cons_zero, List.set_cons_succ]
            refine wpAnyH_take (i := 12) (v := ?vg19_12z17) rfl (by kernel_rfl) (by kernel_rfl) (by kernel_rfl) (fun _ _ _ h => h) (Or.inl ⟨by rfl, ?yg19_12z17⟩) (by assumption) ?rg19_12z17
            case yg19_12z17 => (intro w hSw; (try dsimp only at hSw); go_simp; first | (rw [if_neg (by omega)]) | (with_reducible rfl) | skip)
            simp only [Act.put, List.getElem_toArray, List.getElem_cons_succ, List.getElem_cons_zero, List.setIfInBounds_toArray, List.set_cons_zero, List.set_cons_succ]
            refine wpAnyH_take (i := 13) (v := ?vg19_13z18) rfl (by kernel_rfl) (by kernel_rfl) (by kernel_rfl) (fun _ _ _ h => h) (Or.inl ⟨by rfl, ?yg19_13z18⟩) (by assumption) ?rg19_13z18
            case yg19_13z18 => (intro w hSw; (try dsimp only at hSw); go_simp; first | (rw [if_neg (by omega)]) | (with_reducible rfl) | skip)
            simp only [Act.put, List.getElem_toArray, List.getElem_cons_succ, List.getElem_cons_zero, List.setIfInBounds_toArray, List.set_cons_zero, List.set_cons_succ]
            refine wpAnyH_take (i := 14) (v := ?vg19_14z19) rfl (by kernel_rfl) (by kernel_rfl) (by kernel_rfl) (fun _ _ _ h => h) (Or.inl ⟨by rfl, ?yg19_14z19⟩) (by assumption) ?rg19_14z19
            case yg19_14z19 => (intro w hSw; (try dsimp only at hSw); go_simp; first | (rw [if_neg (by omega)]) | (with_reducible rfl) | skip)
            simp only [Act.put, List.getElem_toArray, List.getElem_cons_succ, List.getElem_cons_zero, List.setIfInBounds_toArray, List.set_cons_zero, List.set_cons_succ]
            refine wpAnyH_ready (rs := [16]) (by kernel_rfl) (by simp) ?_
            refine AllReadyH.cons rfl (fun K' hK => ?_) AllReadyH.nil
            refine wp_store_row 36 (.tmp 18) (.tmp 114) rfl _ y.c (by rfl) (by rfl) 36 (Qm.z 0).c (blk_grown GV.out (heap_alloc_new _ _)) (by rw [Qm.c_size]; exact query_size) (by rw [Qm.c_size, Qm.c_size]) (Qm.c_all _) ?_
            refine hK.out _ _ (Lib.hid (grown_thenX ZV.out (grown_setRow _ _ _) (fun j e => by cases e; exact ZU.out.size))) (fun hHeld => ?_)
            clear hK K'
            simp only [Act.put, List.getElem_toArray, List.getElem_cons_succ, List.getElem_cons_zero, List.setIfInBounds_toArray, List.set_cons_zero, List.set_cons_succ]
            refine wpAnyH_take (i := 17) (v := ?vg19_17z20) rfl (by kernel_rfl) (by kernel_rfl) (by kernel_rfl) (fun _ _ _ h => h) (Or.inl ⟨by rfl, ?yg19_17z20⟩) (by assumption) ?rg19_17z20
            case yg19_17z20 => (intro w hSw; (try dsimp only at hSw); go_simp; first | (rw [if_neg (by omega)]) | (with_reducible rfl) | skip)
            simp only [Act.put, List.getElem_toArray, List.getElem_cons_succ, List.getElem_cons_zero, List.setIfInBounds_toArray, List.set_cons_zero, List.set_cons_succ]
            refine wpAnyH_take (i := 18) (v := ?vg19_18z21) rfl (by kernel_rfl) (by kernel_rfl) (by kernel_rfl) (fun _ _ _ h => h) (Or.inl ⟨by rfl, ?yg19_18z21⟩) (by assumption) ?rg19_18z21
            case yg19_18z21 => (intro w hSw; (try dsimp only at hSw); go_simp; first | (rw [if_neg (by omega)]) | (with_reducible rfl) | skip)
            simp only [Act.put, List.getElem_toArray, List.getElem_cons_succ, List.getElem_cons_zero, List.setIfInBounds_toArray, List.set_cons_zero, List.set_cons_succ]
            refine wpAnyH_done (by kernel_rfl) ?_ _
            go_wp2_with fail
            go_meet
            exact ⟨rfl, Lib.hid (grown_thenX ZV.out (grown_setRow _ _ _) (fun j e => by cases e; first | exact Nat.le_refl _ | exact ZU.out.size | exact ZV.out.size))⟩
        · go_simp
          skip
          refine hK.out _ _ (Lib.hid ((grown_drewT (grown_reflX _ _)).trans (World.grownBy_alloc _ _ none))) (fun hHeld => ?_)
          clear hK K'
          simp only [List.setIfInBounds_toArray, List.set_cons_zero, List.set_cons_succ]
          refine wpAnyH_ready (rs := [9]) (by kernel_rfl) (by simp) ?_
          refine AllReadyH.cons rfl (fun K' hK => ?_) AllReadyH.nil
          go_simp
          go_at_call 14
          refine (HT.out _).mono ?_
          rintro e u ⟨⟨a0, b0, rfl, ht⟩, hg⟩
          have GU := Lib.hid hg
          have ZU : Hid (wc.grownBy u none) := Lib.hid (((grown_drewT (grown_reflX _ _)).trans (World.grownBy_alloc _ _ none)).trans hg)
          have HT0 := Lib.hid ht
          clear ht hg
          refine hK.out _ _ ZU (fun hHeld => ?_)
          clear hK K'
          simp only [List.setIfInBounds_toArray, List.set_cons_zero, List.set_cons_succ]
          refine wpAnyH_ready (rs := [10]) (by kernel_rfl) (by simp) ?_
          refine AllReadyH.cons rfl (fun K' hK => ?_) AllReadyH.nil
          go_simp
          go_at_call 9
          refine (H2.out a0 b0 _ (D5.out.trans ZU.out) HT0.out).mono ?_
          rintro e v ⟨hg, y, p, rfl⟩
          have GV := Lib.hid hg
          have ZV : Hid (wc.grownBy v none) := Lib.hid (ZU.out.trans hg)
          clear hg
          refine hK.out _ _ ZV (fun hHeld => ?_)
          clear hK K'
          simp only [List.setIfInBounds_toArray, List.set_cons_zero, List.set_cons_succ]
          refine wpAnyH_take (i := 11) (v := ?vg19_11z22) rfl (by kernel_rfl) (by kernel_rfl) (by kernel_rfl) (fun _ _ _ h => h) (Or.inl ⟨by rfl, ?yg19_11z22⟩) (by assumption) ?rg19_11z22
          case yg19_11z22 => (intro w hSw; (try dsimp only at hSw); go_simp; first | (rw [if_neg (by omega)]) | (with_reducible rfl) | skip)
          simp only [Act.put, List.getElem_toArray, List.getElem_cons_succ, List.getElem_cons_zero, List.setIfInBounds_toArray, List.set_cons_zero, List.set_cons_succ]
          refine wpAnyH_take (i := 12) (v := ?vg19_12z23) rfl (by kernel_rfl) (by kernel_rfl) (by kernel_rfl) (fun _ _ _ h => h) (Or.inl ⟨by rfl, ?yg19_12z23⟩) (by assumption) ?rg19_12z23
          case yg19_12z23 => (intro w hSw; (try dsimp only at hSw); go_simp; first | (rw [if_neg (by omega)]) | (with_reducible rfl) | skip)
          simp only [Act.put, List.getElem_toArray, List.getElem_cons_succ, List.getElem_cons_zero, List.setIfInBounds_toArray, List.set_cons_zero, List.set_cons_succ]
          refine wpAnyH_take (i := 13) (v := ?vg19_13z24) rfl (by kernel_rfl) (by kernel_rfl) (by kernel_rfl) (fun _ _ _ h => h) (Or.inl ⟨by rfl, ?yg19_13z24⟩) (by assumption) ?rg19_13z24
          case yg19_13z24 => (intro w hSw; (try dsimp only at hSw); go_simp; first | (rw [if_neg (by omega)]) | (with_reducible rfl) | skip)
          simp only [Act.put, List.getElem_toArray, List.getElem_cons_succ, List.getElem_cons_zero, List.setIfInBounds_toArray, List.set_cons_zero, List.set_cons_succ]
          refine wpAnyH_take (i := 14) (v := ?vg19_14z25) rfl (by kernel_rfl) (by kernel_rfl) (by kernel_rfl) (fun _ _ _ h => h) (Or.inl ⟨by rfl, ?yg19_14z25⟩) (by assumption) ?rg19_14z25
          case yg19_14z25 => (intro w hSw; (try dsimp only at hSw); go_simp; first | (rw [if_neg (by omega)]) | (with_reducible rfl) | skip)
          simp only [Act.put, List.getElem_toArray, List.getElem_cons_succ, List.getElem_cons_zero, List.setIfInBounds_toArray, List.set_cons_zero, List.set_cons_succ]
          refine wpAnyH_ready (rs := [16]) (by kernel_rfl) (by simp) ?_
          refine AllReadyH.cons rfl (fun K' hK => ?_) AllReadyH.nil
          refine wp_store_row 36 (.tmp 18) (.tmp 114) rfl _ y.c (by rfl) (by rfl) 36 (Qm.z 0).c (blk_grown (GU.out.trans GV.out) (heap_alloc_new _ _)) (by rw [Qm.c_size]; exact query_size) (by rw [Qm.c_size, Qm.c_size]) (Qm.c_all _) ?_
          refine hK.out _ _ (Lib.hid (grown_thenX ZV.out (grown_setRow _ _ _) (fun j e => by cases e; exact Nat.le_refl _))) (fun hHeld => ?_)
          clear hK K'
          simp only [Act.put, List.getElem_toArray, List.getElem_cons_succ, List.getElem_cons_zero, List.setIfInBounds_toArray, List.set_cons_zero, List.set_cons_succ]
          refine wpAnyH_take (i := 17) (v := ?vg19_17z26) rfl (by kernel_rfl) (by kernel_rfl) (by kernel_rfl) (fun _ _ _ h => h) (Or.inl ⟨by rfl, ?yg19_17z26⟩) (by assumption) ?rg19_17z26
          case yg19_17z26 => (intro w hSw; (try dsimp only at hSw); go_simp; first | (rw [if_neg (by omega)]) | (with_reducible rfl) | skip)
          simp only [Act.put, List.getElem_toArray, List.getElem_cons_succ, List.getElem_cons_zero, List.setIfInBounds_toArray, List.set_cons_zero, List.set_cons_succ]
          refine wpAnyH_take (i := 18) (v := ?vg19_18z27) rfl (by kernel_rfl) (by kernel_rfl) (by kernel_rfl) (fun _ _ _ h => h) (Or.inl ⟨by rfl, ?yg19_18z27⟩) (by assumption) ?rg19_18z27
          case yg19_18z27 => (intro w hSw; (try dsimp only at hSw); go_simp; first | (rw [if_neg (by omega)]) | (with_reducible rfl) | skip)
          simp only [Act.put, List.getElem_toArray, List.getElem_cons_succ, List.getElem_cons_zero, List.setIfInBounds_toArray, List.set_cons_zero, List.set_cons_succ]
          refine wpAnyH_done (by kernel_rfl) ?_ _
          go_wp2_with fail
          go_meet
          exact ⟨rfl, Lib.hid (grown_thenX ZV.out (grown_setRow _ _ _) (fun j e => by cases e; first | exact Nat.le_refl _ | exact ZU.out.size | exact ZV.out.size))⟩
      case rest =>
      obtain ⟨rfl, hG⟩ := hcut
      have D5 := Lib.hid (D5.out.trans hG.out)
      have B5 := Lib.hid (hG.out.cell B5.out (by simp))
      have C : Hid (∀ i, i < 4 → wc.cell? ⟨w1.heap.size, i, none⟩ = some (.string (nmG i))) := Lib.hid fun i hi => hG.out.cell (C.out i hi) (by simp)
      clear hG
      go_upto_region 20 with fail
      go_cut [21, 22, 23] from 117 (fun _ y x wx => x = .int .i64 r3 ∧ Hid (wc.grownBy wx none))
      case first => as_aux_lemma =>
        have n1 : ¬ (9223372036854775807 < 15 + s8.size) := by omega
        go_wp2_with fail
        refine (HT.out _).mono ?_
        rintro e u ⟨⟨a0, b0, rfl, ht⟩, hg⟩
        have HT0 := Lib.hid ht
        have GU := Lib.hid hg
        clear ht hg
        go_wp2_with fail
        refine (H3.out a0 b0 _ (D5.out.trans GU.out) HT0.out).mono ?_
        rintro e v ⟨hg, y, p, rfl⟩
        have GV := Lib.hid (GU.out.trans hg)
        have BV := Lib.hid (heap_alloc_new v (.cells (Qm.z 0).c 36))
        clear hg
        go_wp2_with (refine wpList_store_row rfl 36 (.tmp 21) (.tmp 122) rfl v.heap.size y.c rfl rfl 36 (Qm.z 0).c BV.out (by rw [Qm.c_size]; exact query_size) (by rw [Qm.c_size, Qm.c_size]) (Qm.c_all _) ?_)
        go_meet
        exact ⟨rfl, Lib.hid (GV.out.trans (put_qm v y).1)⟩
      case rest =>
      obtain ⟨rfl, hG⟩ := hcut
      have D5 := Lib.hid (D5.out.trans hG.out)
      have B5 := Lib.hid (hG.out.cell B5.out (by simp))
      have C : Hid (∀ i, i < 4 → wc.cell? ⟨w1.heap.size, i, none⟩ = some (.string (nmG i))) := Lib.hid fun i hi => hG.out.cell (C.out i hi) (by simp)
      clear hG
      go_upto_region 21 with fail
      go_cut [24, 25, 26] from 125 (fun _ y x wx => x = .int .i64 r4 ∧ Hid (wc.grownBy wx none))
      case first => as_aux_lemma =>
        refine wp_region_held_drew (S := (fun W => Hid (wc.grownBy W none))) (by kernel_rfl) (Lib.hid (grown_drewT (grown_reflX _ _))) (fun hHeld => ?_)
        refine wpAnyH_take (i := 0) (v := ?vg21_0z1) rfl (by kernel_rfl) (by kernel_rfl) (by kernel_rfl) (fun _ _ _ h => h) (Or.inl ⟨by rfl, ?yg21_0z1⟩) (by assumption) ?rg21_0z1
        case yg21_0z1 => (intro w hSw; (try dsimp only at hSw); go_simp; first | (rw [if_neg (by omega)]) | (with_reducible rfl) | skip)
        simp only [Act.put, List.getElem_toArray, List.getElem_cons_zero, List.size_toArray, List.length_cons, List.length_nil, Nat.reduceAdd, Array.replicate, List.replicate, List.setIfInBounds_toArray, List.set_cons_zero, List.set_cons_succ]
        refine wpAnyH_take (i := 1) (v := ?vg21_1z2) rfl (by kernel_rfl) (by kernel_rfl) (by kernel_rfl) (fun _ _ _ h => h) (Or.inl ⟨by rfl, ?yg21_1z2⟩) (by assumption) ?rg21_1z2
        case yg21_1z2 => (intro w hSw; (try dsimp only at hSw); go_simp; first | (rw [if_neg (by omega)]) | (with_reducible rfl) | skip)
        simp only [Act.put, List.getElem_toArray, List.getElem_cons_succ, List.getElem_cons_zero, List.setIfInBounds_toArray, List.set_cons_zero, List.set_cons_succ]
        refine wpAnyH_take (i := 2) (v := ?vg21_2z3) rfl (by kernel_rfl) (by kernel_rfl) (by kernel_rfl) (fun _ _ _ h => h) (Or.inl ⟨by rfl, ?yg21_2z3⟩) (by assumption) ?rg21_2z3
        case yg21_2z3 => (intro w hSw; have h0 := hSw.out.cell (C.out i hi4) (by simp); clear hSw; go_simp; first | (rw [if_neg (by omega)]) | (with_reducible rfl) | skip)
        simp only [Act.put, List.getElem_toArray, List.getElem_cons_succ, List.getElem_cons_zero, List.setIfInBounds_toArray, List.set_cons_zero, List.set_cons_succ]
        refine wpAnyH_take (i := 3) (v := ?vg21_3z4) rfl (by kernel_rfl) (by kernel_rfl) (by kernel_rfl) (fun _ _ _ h => h) (Or.inl ⟨by rfl, ?yg21_3z4⟩) (by assumption) ?rg21_3z4
        case yg21_3z4 => (intro w hSw; (try dsimp only at hSw); go_simp; first | (rw [if_neg (by omega)]) | (with_reducible rfl) | skip)
        simp only [Act.put, List.getElem_toArray, List.getElem_cons_succ, List.getElem_cons_zero, List.setIfInBounds_toArray, List.set_cons_zero, List.set_cons_succ]
        refine wpAnyH_take (i := 4) (v := ?vg21_4z5) rfl (by kernel_rfl) (by kernel_rfl) (by kernel_rfl) (fun _ _ _ h => h) (Or.inl ⟨by rfl, ?yg21_4z5⟩) (by assumption) ?rg21_4z5
        case yg21_4z5 => (intro w hSw; (try dsimp only at hSw); go_simp; first | (rw [if_neg (by omega)]) | (with_reducible rfl) | skip)
        simp only [Act.put, List.getElem_toArray, List.getElem_cons_succ, List.getElem_cons_zero, List.setIfInBounds_toArray, List.set_cons_zero, List.set_cons_succ]
        refine wpAnyH_take (i := 5) (v := ?vg21_5z6) rfl (by kernel_rfl) (by kernel_rfl) (by kernel_rfl) (fun _ _ _ h => h) (Or.inl ⟨by rfl, ?yg21_5z6⟩) (by assumption) ?rg21_5z6
        case yg21_5z6 => (intro w hSw; (try dsimp only at hSw); go_simp; first | (rw [if_neg (by omega)]) | (with_reducible rfl) | skip)
        simp only [Act.put, List.getElem_toArray, List.getElem_cons_succ, List.getElem_cons_zero, List.setIfInBounds_toArray, List.set_cons_zero, List.set_cons_succ]
        refine wpAnyH_take (i := 6) (v := ?vg21_6z7) rfl (by kernel_rfl) (by kernel_rfl) (by kernel_rfl) (fun _ _ _ h => h) (Or.inl ⟨by rfl, ?yg21_6z7⟩) (by assumption) ?rg21_6z7
        case yg21_6z7 => (intro w hSw; (try dsimp only at hSw); go_simp; first | (rw [if_neg (by omega)]) | (with_reducible rfl) | skip)
        simp only [Act.put, List.getElem_toArray, List.getElem_cons_succ, List.getElem_cons_zero, List.setIfInBounds_toArray, List.set_cons_zero, List.set_cons_succ]
        refine wpAnyH_take (i := 7) (v := ?vg21_7z8) rfl (by kernel_rfl) (by kernel_rfl) (by kernel_rfl) (fun _ _ _ h => h) (Or.inl ⟨by rfl, ?yg21_7z8⟩) (by assumption) ?rg21_7z8
        case yg21_7z8 => (intro w hSw; have h0 := hSw.out.cell (C.out k hk4) (by simp); clear hSw; go_simp; first | (rw [if_neg (by omega)]) | (with_reducible rfl) | skip)
        simp only [Act.put, List.getElem_toArray, List.getElem_cons_succ, List.getElem_cons_zero, List.setIfInBounds_toArray, List.set_cons_zero, List.set_cons_succ]
        refine wpAnyH_take (i := 8) (v := ?vg21_8z9) rfl (by kernel_rfl) (by kernel_rfl) (by kernel_rfl) (fun _ _ _ h => h) (Or.inl ⟨by rfl, ?yg21_8z9⟩) (by assumption) ?rg21_8z9
        case yg21_8z9 => (intro w hSw; (try dsimp only at hSw); go_simp; first | (rw [if_neg (by omega)]) | (with_reducible rfl) | skip)
        simp only [Act.put, List.getElem_toArray, List.getElem_cons_succ, List.getElem_cons_zero, List.setIfInBounds_toArray, List.set_cons_zero, List.set_cons_succ]
        refine wpAnyH_take (i := 9) (v := ?vg21_9z10) rfl (by kernel_rfl) (by kernel_rfl) (by kernel_rfl) (fun _ _ _ h => h) (Or.inl ⟨by rfl, ?yg21_9z10⟩) (by assumption) ?rg21_9z10
        case yg21_9z10 => (intro w hSw; (try dsimp only at hSw); go_simp; first | (rw [if_neg (by omega)]) | (with_reducible rfl) | skip)
        simp only [Act.put, List.getElem_toArray, List.getElem_cons_succ, List.getElem_cons_zero, List.setIfInBounds_toArray, List.set_cons_zero, List.set_cons_succ]
        refine wpAnyH_take (i := 10) (v := ?vg21_10z11) rfl (by kernel_rfl) (by kernel_rfl) (by kernel_rfl) (fun _ _ _ h => h) (Or.inl ⟨by rfl, ?yg21_10z11⟩) (by assumption) ?rg21_10z11
        case yg21_10z11 => (intro w hSw; (try dsimp only at hSw); go_simp; first | (rw [if_neg (by omega)]) | (with_reducible rfl) | skip)
        simp only [Act.put, List.getElem_toArray, List.getElem_cons_succ, List.getElem_cons_zero, List.setIfInBounds_toArray, List.set_cons_zero, List.set_cons_succ]
        refine wpAnyH_take (i := 11) (v := ?vg21_11z12) rfl (by kernel_rfl) (by kernel_rfl) (by kernel_rfl) (fun _ _ _ h => h) (Or.inl ⟨by rfl, ?yg21_11z12⟩) (by assumption) ?rg21_11z12
        case yg21_11z12 => (intro w hSw; (try dsimp only at hSw); go_simp; first | (rw [if_neg (by omega)]) | (with_reducible rfl) | skip)
        simp only [Act.put, List.getElem_toArray, List.getElem_cons_succ, List.getElem_cons_zero, List.setIfInBounds_toArray, List.set_cons_zero, List.set_cons_succ]
        refine wpAnyH_take (i := 12) (v := ?vg21_12z13) rfl (by kernel_rfl) (by kernel_rfl) (by kernel_rfl) (fun _ _ _ h => h) (Or.inl ⟨by rfl, ?yg21_12z13⟩) (by assumption) ?rg21_12z13
        case yg21_12z13 => (intro w hSw; have h0 := hSw.out.cell (C.out i hi4) (by simp); clear hSw; go_simp; first | (rw [if_neg (by omega)]) | (with_reducible rfl) | skip)
        simp only [Act.put, List.getElem_toArray, List.getElem_cons_succ, List.getElem_cons_zero, List.setIfInBounds_toArray, List.set_cons_zero, List.set_cons_succ]
        refine wpAnyH_take (i := 13) (v := ?vg21_13z14) rfl (by kernel_rfl) (by kernel_rfl) (by kernel_rfl) (fun _ _ _ h => h) (Or.inl ⟨by rfl, ?yg21_13z14⟩) (by assumption) ?rg21_13z14
        case yg21_13z14 => (intro w hSw; (try dsimp only at hSw); go_simp; first | (rw [if_neg (by omega)]) | (with_reducible rfl) | skip)
        simp only [Act.put, List.getElem_toArray, List.getElem_cons_succ, List.getElem_cons_zero, List.setIfInBounds_toArray, List.set_cons_zero, List.set_cons_succ]
        refine wpAnyH_ready (rs := [14, 20]) (by kernel_rfl) (by simp) ?_
        refine (AllReadyH.cons rfl (fun K' hK => ?_) (AllReadyH.cons rfl (fun K' hK => ?_) AllReadyH.nil))
        · go_simp
          go_at_call 14
          refine (HT.out _).mono ?_
          rintro e u ⟨⟨a0, b0, rfl, ht⟩, hg⟩
          have GU := Lib.hid hg
          have ZU : Hid (wc.grownBy u none) := Lib.hid ((grown_drewT (grown_reflX _ _)).trans hg)
          have HT0 := Lib.hid ht
          clear ht hg
          refine hK.out _ _ ZU (fun hHeld => ?_)
          clear hK K'
          simp only [List.setIfInBounds_toArray, List.set_cons_zero, List.set_cons_succ]
          refine wpAnyH_ready (rs := [15, 20]) (by kernel_rfl) (by simp) ?_
          refine (AllReadyH.cons rfl (fun K' hK => ?_) (AllReadyH.cons rfl (fun K' hK => ?_) AllReadyH.nil))
          · go_simp
            go_at_call 9
            refine (H4.out a0 b0 _ (D5.out.trans ZU.out) HT0.out).mono ?_
            rintro e v ⟨hg, y, p, rfl⟩
            have GV := Lib.hid hg
            have ZV : Hid (wc.grownBy v none) := Lib.hid (ZU.out.trans hg)
            clear hg
            refine hK.out _ _ ZV (fun hHeld => ?_)
            clear hK K'
            simp only [List.setIfInBounds_toArray, List.set_cons_zero, List.set_cons_succ]
            refine wpAnyH_take (i := 16) (v := ?vg21_16z15) rfl (by kernel_rfl) (by kernel_rfl) (by kernel_rfl) (fun _ _ _ h => h) (Or.inl ⟨by rfl, ?yg21_16z15⟩) (by assumption) ?rg21_16z15
            case yg21_16z15 => (intro w hSw; (try dsimp only at hSw); go_simp; first | (rw [if_neg (by omega)]) | (with_reducible rfl) | skip)
            simp only [Act.put, List.getElem_toArray, List.getElem_cons_succ, List.getElem_cons_zero, List.setIfInBounds_toArray, List.set_cons_zero, List.set_cons_succ]
            refine wpAnyH_take (i := 17) (v := ?vg21_17z16) rfl (by kernel_rfl) (by kernel_rfl) (by kernel_rfl) (fun _ _ _ h => h) (Or.inl ⟨by rfl, ?yg21_17z16⟩) (by assumption) ?rg21_17z16
            case yg21_17z16 => (intro w hSw; (try dsimp only at hSw); go_simp; first | (rw [if_neg (by omega)]) | (with_reducible rfl) | skip)
            simp only [Act.put, List.getElem_toArray, List.getElem_cons_succ, List.getElem_cons_zero, List.setIfInBounds_toArray, List.set_cons_zero, List.set_cons_succ]
            refine wpAnyH_take (i := 18) (v := ?vg21_18z17) rfl (by kernel_rfl) (by kernel_rfl) (by kernel_rfl) (fun _ _ _ h => h) (Or.inl ⟨by rfl, ?yg21_18z17⟩) (by assumption) ?rg21_18z17
            case yg21_18z17 => (intro w hSw; (try dsimp only at hSw); go_simp; first | (rw [if_neg (by omega)]) | (with_reducible rfl) | skip)
            simp only [Act.put, List.getElem_toArray, List.getElem_cons_succ, List.getElem_cons_zero, List.setIfInBounds_toArray, List.set_cons_zero, List.set_cons_succ]
            refine wpAnyH_take (i := 19) (v := ?vg21_19z18) rfl (by kernel_rfl) (by kernel_rfl) (by kernel_rfl) (fun _ _ _ h => h) (Or.inl ⟨by rfl, ?yg21_19z18⟩) (by assumption) ?rg21_19z18
            case yg21_19z18 => (intro w hSw; (try dsimp only at hSw); go_simp; first | (rw [if_neg (by omega)]) | (with_reducible rfl) | skip)
            simp only [Act.put, List.getElem_toArray, List.getElem_cons_succ, List.getElem_cons_zero, List.setIfInBounds_toArray, List.set_cons_zero, List.set_cons_succ]
            refine wpAnyH_ready (rs := [20]) (by kernel_rfl) (by simp) ?_
            refine AllReadyH.cons rfl (fun K' hK => ?_) AllReadyH.nil
            go_simp
            skip
            refine hK.out _ _ (Lib.hid (ZV.out.trans (World.grownBy_alloc _ _ none))) (fun hHeld => ?_)
            clear hK K'
            simp only [List.setIfInBounds_toArray, List.set_cons_zero, List.set_cons_succ]
            refine wpAnyH_ready (rs := [21]) (by kernel_rfl) (by simp) ?_
            refine AllReadyH.cons rfl (fun K' hK => ?_) AllReadyH.nil
            refine wp_store_row 36 (.tmp 24) (.tmp 142) rfl _ y.c (by rfl) (by rfl) 36 (Qm.z 0).c (heap_alloc_new _ _) (by rw [Qm.c_size]; exact query_size) (by rw [Qm.c_size, Qm.c_size]) (Qm.c_all _) ?_
            refine hK.out _ _ (Lib.hid (grown_thenX (ZV.out.trans (World.grownBy_alloc _ _ none)) (grown_setRow _ _ _) (fun j e => by cases e; exact ZV.out.size))) (fun hHeld => ?_)
            clear hK K'
            simp only [Act.put, List.getElem_toArray, List.getElem_cons_succ, List.getElem_cons_zero, List.setIfInBounds_toArray, List.set_cons_zero, List.set_cons_succ]
            refine wpAnyH_take (i := 22) (v := ?vg21_22z19) rfl (by kernel_rfl) (by kernel_rfl) (by kernel_rfl) (fun _ _ _ h => h) (Or.inl ⟨by rfl, ?yg21_22z19⟩) (by assumption) ?rg21_22z19
            case yg21_22z19 => (intro w hSw; (try dsimp only at hSw); go_simp; first | (rw [if_neg (by omega)]) | (with_reducible rfl) | skip)
            simp only [Act.put, List.getElem_toArray, List.getElem_cons_succ, List.getElem_cons_zero, List.setIfInBounds_toArray, List.set_cons_zero, List.set_cons_succ]
            refine wpAnyH_take (i := 23) (v := ?vg21_23z20) rfl (by kernel_rfl) (by kernel_rfl) (by kernel_rfl) (fun _ _ _ h => h) (Or.inl ⟨by rfl, ?yg21_23z20⟩) (by assumption) ?rg21_23z20
            case yg21_23z20 => (intro w hSw; (try dsimp only at hSw); go_simp; first | (rw [if_neg (by omega)]) | (with_reducible rfl) | skip)
            simp only [Act.put, List.getElem_toArray, List.getElem_cons_succ, List.getElem_cons_zero, List.setIfInBounds_toArray, List.set_cons_zero, List.set_cons_succ]
            refine wpAnyH_done (by kernel_rfl) ?_ _
            go_wp2_with fail
            go_meet
            exact ⟨rfl, Lib.hid (grown_thenX (ZV.out.trans (World.grownBy_alloc _ _ none)) (grown_setRow _ _ _) (fun j e => by cases e; first | exact Nat.le_refl _ | exact ZU.out.size | exact ZV.out.size))⟩
          · go_simp
            skip
            refine hK.out _ _ (Lib.hid (ZU.out.trans (World.grownBy_alloc _ _ none))) (fun hHeld => ?_)
            clear hK K'
            simp only [List.setIfInBounds_toArray, List.set_cons_zero, List.set_cons_succ]
            refine wpAnyH_ready (rs := [15]) (by kernel_rfl) (by simp) ?_
            refine AllReadyH.cons rfl (fun K' hK => ?_) AllReadyH.nil
            go_simp
            go_at_call 9
            refine (H4.out a0 b0 _ (D5.out.trans (ZU.out.trans (World.grownBy_alloc _ _ none))) (tabs_keptG HT0.out (World.grownBy_alloc _ _ none))).mono ?_
            rintro e v ⟨hg, y, p, rfl⟩
            have GV := Lib.hid hg
            have ZV : Hid (wc.grownBy v none) := Lib.hid ((ZU.out.trans (World.grownBy_alloc _ _ none)).trans hg)
            clear hg
            refine hK.out _ _ ZV (fun hHeld => ?_)
            clear hK K'
            simp only [List.setIfInBounds_toArray, List.set_cons_zero, List.set_cons_succ]
            refine wpAnyH_take (i := 16) (v := ?vg21_16z21) rfl (by kernel_rfl) (by kernel_rfl) (by kernel_rfl) (fun _ _ _ h => h) (Or.inl ⟨by rfl, ?yg21_16z21⟩) (by assumption) ?rg21_16z21
            case yg21_16z21 => (intro w hSw; (try dsimp only at hSw); go_simp; first | (rw [if_neg (by omega)]) | (with_reducible rfl) | skip)
            simp only [Act.put, List.getElem_toArray, List.getElem_cons_succ, List.getElem_cons_zero, List.setIfInBounds_toArray, List.set_cons_zero, List.set_cons_succ]
            refine wpAnyH_take (i := 17) (v := ?vg21_17z22) rfl (by kernel_rfl) (by kernel_rfl) (by kernel_rfl) (fun _ _ _ h => h) (Or.inl ⟨by rfl, ?yg21_17z22⟩) (by assumption) ?rg21_17z22
            case yg21_17z22 => (intro w hSw; (try dsimp only at hSw); go_simp; first | (rw [if_neg (by omega)]) | (with_reducible rfl) | skip)
            simp only [Act.put, List.getElem_toArray, List.getElem_cons_succ, List.getElem_cons_zero, List.setIfInBounds_toArray, List.set_cons_zero, List.set_cons_succ]
            refine wpAnyH_take (i := 18) (v := ?vg21_18z23) rfl (by kernel_rfl) (by kernel_rfl) (by kernel_rfl) (fun _ _ _ h => h) (Or.inl ⟨by rfl, ?yg21_18z23⟩) (by assumption) ?rg21_18z23
            case yg21_18z23 => (intro w hSw; (try dsimp only at hSw); go_simp; first | (rw [if_neg (by omega)]) | (with_reducible rfl) | skip)
            simp only [Act.put, List.getElem_toArray, List.getElem_cons_succ, List.getElem_cons_zero, List.setIfInBounds_toArray, List.set_cons_zero, List.set_cons_succ]
            refine wpAnyH_take (i := 19) (v := ?vg21_19z24) rfl (by kernel_rfl) (by kernel_rfl) (by kernel_rfl) (fun _ _ _ h => h) (Or.inl ⟨by rfl, ?yg21_19z24⟩) (by assumption) ?rg21_19z24
            case yg21_19z24 => (intro w hSw; (try dsimp only at hSw); go_simp; first | (rw [if_neg (by omega)]) | (with_reducible rfl) | skip)
            simp only [Act.put, List.getElem_toArray, List.getElem_cons_succ, List.getElem_cons_zero, List.setIfInBounds_toArray, List.set_cons_zero, List.set_cons_succ]
            refine wpAnyH_ready (rs := [21]) (by kernel_rfl) (by simp) ?_
            refine AllReadyH.cons rfl (fun K' hK => ?_) AllReadyH.nil
            refine wp_store_row 36 (.tmp 24) (.tmp 142) rfl _ y.c (by rfl) (by rfl) 36 (Qm.z 0).c (blk_grown GV.out (heap_alloc_new _ _)) (by rw [Qm.c_size]; exact query_size) (by rw [Qm.c_size, Qm.c_size]) (Qm.c_all _) ?_
            refine hK.out _ _ (Lib.hid (grown_thenX ZV.out (grown_setRow _ _ _) (fun j e => by cases e; exact ZU.out.size))) (fun hHeld => ?_)
            clear hK K'
            simp only [Act.put, List.getElem_toArray, List.getElem_cons_succ, List.getElem_cons_zero, List.setIfInBounds_toArray, List.set_cons_zero, List.set_cons_succ]
            refine wpAnyH_take (i := 22) (v := ?vg21_22z25) rfl (by kernel_rfl) (by kernel_rfl) (by kernel_rfl) (fun _ _ _ h => h) (Or.inl ⟨by rfl, ?yg21_22z25⟩) (by assumption) ?rg21_22z25
            case yg21_22z25 => (intro w hSw; (try dsimp only at hSw); go_simp; first | (rw [if_neg (by omega)]) | (with_reducible rfl) | skip)
            simp only [Act.put, List.getElem_toArray, List.getElem_cons_succ, List.getElem_cons_zero, List.setIfInBounds_toArray, List.set_cons_zero, List.set_cons_succ]
            refine wpAnyH_take (i := 23) (v := ?vg21_23z26) rfl (by kernel_rfl) (by kernel_rfl) (by kernel_rfl) (fun _ _ _ h => h) (Or.inl ⟨by rfl, ?yg21_23z26⟩) (by assumption) ?rg21_23z26
            case yg21_23z26 => (intro w hSw; (try dsimp only at hSw); go_simp; first | (rw [if_neg (by omega)]) | (with_reducible rfl) | skip)
            simp only [Act.put, List.getElem_toArray, List.getElem_cons_succ, List.getElem_cons_zero, List.setIfInBounds_toArray, List.set_cons_zero, List.set_cons_succ]
            refine wpAnyH_done (by kernel_rfl) ?_ _
            go_wp2_with fail
            go_meet
            exact ⟨rfl, Lib.hid (grown_thenX ZV.out (grown_setRow _ _ _) (fun j e => by cases e; first | exact Nat.le_refl _ | exact ZU.out.size | exact ZV.out.size))⟩
        · go_simp
          skip
          refine hK.out _ _ (Lib.hid ((grown_drewT (grown_reflX _ _)).trans (World.grownBy_alloc _ _ none))) (fun hHeld => ?_)
          clear hK K'
          simp only [List.setIfInBounds_toArray, List.set_cons_zero, List.set_cons_succ]
          refine wpAnyH_ready (rs := [14]) (by kernel_rfl) (by simp) ?_
          refine AllReadyH.cons rfl (fun K' hK => ?_) AllReadyH.nil
          go_simp
          go_at_call 14
          refine (HT.out _).mono ?_
          rintro e u ⟨⟨a0, b0, rfl, ht⟩, hg⟩
          have GU := Lib.hid hg
          have ZU : Hid (wc.grownBy u none) := Lib.hid (((grown_drewT (grown_reflX _ _)).trans (World.grownBy_alloc _ _ none)).trans hg)
          have HT0 := Lib.hid ht
          clear ht hg
          refine hK.out _ _ ZU (fun hHeld => ?_)
          clear hK K'
          simp only [List.setIfInBounds_toArray, List.set_cons_zero, List.set_cons_succ]
          refine wpAnyH_ready (rs := [15]) (by kernel_rfl) (by simp) ?_
          refine AllReadyH.cons rfl (fun K' hK => ?_) AllReadyH.nil
          go_simp
          go_at_call 9
          refine (H4.out a0 b0 _ (D5.out.trans ZU.out) HT0.out).mono ?_
          rintro e v ⟨hg, y, p, rfl⟩
          have GV := Lib.hid hg
          have ZV : Hid (wc.grownBy v none) := Lib.hid (ZU.out.trans hg)
          clear hg
          refine hK.out _ _ ZV (fun hHeld => ?_)
          clear hK K'
          simp only [List.setIfInBounds_toArray, List.set_cons_zero, List.set_cons_succ]
          refine wpAnyH_take (i := 16) (v := ?vg21_16z27) rfl (by kernel_rfl) (by kernel_rfl) (by kernel_rfl) (fun _ _ _ h => h) (Or.inl ⟨by rfl, ?yg21_16z27⟩) (by assumption) ?rg21_16z27
          case yg21_16z27 => (intro w hSw; (try dsimp only at hSw); go_simp; first | (rw [if_neg (by omega)]) | (with_reducible rfl) | skip)
          simp only [Act.put, List.getElem_toArray, List.getElem_cons_succ, List.getElem_cons_zero, List.setIfInBounds_toArray, List.set_cons_zero, List.set_cons_succ]
          refine wpAnyH_take (i := 17) (v := ?vg21_17z28) rfl (by kernel_rfl) (by kernel_rfl) (by kernel_rfl) (fun _ _ _ h => h) (Or.inl ⟨by rfl, ?yg21_17z28⟩) (by assumption) ?rg21_17z28
          case yg21_17z28 => (intro w hSw; (try dsimp only at hSw); go_simp; first | (rw [if_neg (by omega)]) | (with_reducible rfl) | skip)
          simp only [Act.put, List.getElem_toArray, List.getElem_cons_succ, List.getElem_cons_zero, List.setIfInBounds_toArray, List.set_cons_zero, List.set_cons_succ]
          refine wpAnyH_take (i := 18) (v := ?vg21_18z29) rfl (by kernel_rfl) (by kernel_rfl) (by kernel_rfl) (fun _ _ _ h => h) (Or.inl ⟨by rfl, ?yg21_18z29⟩) (by assumption) ?rg21_18z29
          case yg21_18z29 => (intro w hSw; (try dsimp only at hSw); go_simp; first | (rw [if_neg (by omega)]) | (with_reducible rfl) | skip)
          simp only [Act.put, List.getElem_toArray, List.getElem_cons_succ, List.getElem_cons_zero, List.setIfInBounds_toArray, List.set_cons_zero, List.set_cons_succ]
          refine wpAnyH_take (i := 19) (v := ?vg21_19z30) rfl (by kernel_rfl) (by kernel_rfl) (by kernel_rfl) (fun _ _ _ h => h) (Or.inl ⟨by rfl, ?yg21_19z30⟩) (by assumption) ?rg21_19z30
          case yg21_19z30 => (intro w hSw; (try dsimp only at hSw); go_simp; first | (rw [if_neg (by omega)]) | (with_reducible rfl) | skip)
          simp only [Act.put, List.getElem_toArray, List.getElem_cons_succ, List.getElem_cons_zero, List.setIfInBounds_toArray, List.set_cons_zero, List.set_cons_succ]
          refine wpAnyH_ready (rs := [21]) (by kernel_rfl) (by simp) ?_
          refine AllReadyH.cons rfl (fun K' hK => ?_) AllReadyH.nil
          refine wp_store_row 36 (.tmp 24) (.tmp 142) rfl _ y.c (by rfl) (by rfl) 36 (Qm.z 0).c (blk_grown (GU.out.trans GV.out) (heap_alloc_new _ _)) (by rw [Qm.c_size]; exact query_size) (by rw [Qm.c_size, Qm.c_size]) (Qm.c_all _) ?_
          refine hK.out _ _ (Lib.hid (grown_thenX ZV.out (grown_setRow _ _ _) (fun j e => by cases e; exact Nat.le_refl _))) (fun hHeld => ?_)
          clear hK K'
          simp only [Act.put, List.getElem_toArray, List.getElem_cons_succ, List.getElem_cons_zero, List.setIfInBounds_toArray, List.set_cons_zero, List.set_cons_succ]
          refine wpAnyH_take (i := 22) (v := ?vg21_22z31) rfl (by kernel_rfl) (by kernel_rfl) (by kernel_rfl) (fun _ _ _ h => h) (Or.inl ⟨by rfl, ?yg21_22z31⟩) (by assumption) ?rg21_22z31
          case yg21_22z31 => (intro w hSw; (try dsimp only at hSw); go_simp; first | (rw [if_neg (by omega)]) | (with_reducible rfl) | skip)
          simp only [Act.put, List.getElem_toArray, List.getElem_cons_succ, List.getElem_cons_zero, List.setIfInBounds_toArray, List.set_cons_zero, List.set_cons_succ]
          refine wpAnyH_take (i := 23) (v := ?vg21_23z32) rfl (by kernel_rfl) (by kernel_rfl) (by kernel_rfl) (fun _ _ _ h => h) (Or.inl ⟨by rfl, ?yg21_23z32⟩) (by assumption) ?rg21_23z32
          case yg21_23z32 => (intro w hSw; (try dsimp only at hSw); go_simp; first | (rw [if_neg (by omega)]) | (with_reducible rfl) | skip)
          simp only [Act.put, List.getElem_toArray, List.getElem_cons_succ, List.getElem_cons_zero, List.setIfInBounds_toArray, List.set_cons_zero, List.set_cons_succ]
          refine wpAnyH_done (by kernel_rfl) ?_ _
          go_wp2_with fail
          go_meet
          exact ⟨rfl, Lib.hid (grown_thenX ZV.out (grown_setRow _ _ _) (fun j e => by cases e; first | exact Nat.le_refl _ | exact ZU.out.size | exact ZV.out.size))⟩
      case rest =>
      obtain ⟨rfl, hG⟩ := hcut
      have D5 := Lib.hid (D5.out.trans hG.out)
      have B5 := Lib.hid (hG.out.cell B5.out (by simp))
      have C : Hid (∀ i, i < 4 → wc.cell? ⟨w1.heap.size, i, none⟩ = some (.string (nmG i))) := Lib.hid fun i hi => hG.out.cell (C.out i hi) (by simp)
      clear hG
      have HS : Hid (s8 = ⟨#[]⟩ ∧ r3 = 0 ∨ (s8.toList.isEmpty = false ∧ (s8.toList == (⟨#[]⟩ : ByteArray).toList) = false) ∧ r3 = 17) := Lib.hid (by
        by_cases h0 : ms = 0
        · refine .inl ⟨?_, by rw [O3.out, if_pos h0]⟩
          have := HGE.out.2 h0
          exact ByteArray.ext (Array.eq_empty_of_size_eq_zero this)
        · refine .inr ⟨?_, by rw [O3.out, if_neg h0]⟩
          have hne : (s8.toList == (⟨#[]⟩ : ByteArray).toList) = false := str_ne (fun e => h0 (HGE.out.1 (by rw [e]; rfl)))
          refine ⟨?_, hne⟩
          rw [show (⟨#[]⟩ : ByteArray).toList = [] from by rw [Lib.toList_data]] at hne
          cases hl : s8.toList with
          | nil => rw [hl] at hne; exact absurd hne (by decide)
          | cons a b => rfl)
      have HO : Hid (i = k ∧ r4 = 23 ∨ (((i : Int) != k) = true ∧ ((i : Int) == k) = false) ∧ r4 = 0) := Lib.hid (by
        by_cases h0 : i = k
        · exact .inl ⟨h0, by rw [O4.out, if_pos h0]⟩
        · exact .inr ⟨⟨by rw [bne_iff_ne]; omega, by rw [beq_eq_false_iff_ne]; omega⟩, by rw [O4.out, if_neg h0]⟩)
      go_upto_region 22 with fail
      clear HI1 HI2 H1 H2 H3 H4 O1 O3 O4 si sk sg hi4' hk4' B5 C
      rcases HS.out with ⟨rfl, rfl⟩ | ⟨⟨t1, t2⟩, rfl⟩
      · rcases HO.out with ⟨rfl, rfl⟩ | ⟨⟨t3, t4⟩, rfl⟩
        · go_wp2_with fail
          go_ret
          exact ⟨rfl, D5.out⟩
        · go_wp2_with fail
          go_ret
          exact ⟨rfl, D5.out⟩
      · rcases HO.out with ⟨rfl, rfl⟩ | ⟨⟨t3, t4⟩, rfl⟩
        · go_wp2_with fail
          go_ret
          exact ⟨rfl, D5.out⟩
        · go_wp2_with fail
          go_ret
          exact ⟨rfl, D5.out⟩
    · have hz3 : z < 4 := by omega
      have hz3' : (z : Int) < 4 := by omega
      have c0 := KW.out.cell B5.out (by simp)
      have c1 := KW.out.cell (C.out z hz3) (by simp)
      have s1 := nmG_few z
      have s2 := lsG_few ms z
      have n1 : ¬ (9223372036854775807 < 2 + (nmG z).size) := by omega
      have n2 : ¬ (9223372036854775807 < (lsG ms z).size + (2 + (nmG z).size)) := by omega
      have hb := HB.out z hz3
      have HS : Hid (lsG ms (z + 1) = if inG ms z then lsG ms z ++ ((⟨#[44, 32]⟩ : ByteArray) ++ nmG z) else lsG ms z) := Lib.hid rfl
      clear s1 s2 hz hz4
      cases hc : inG ms z with
      | false =>
        rw [hc] at hb HS
        clear hc
        go_wp2_with fail
        go_roundw
        case rel => exact ⟨z + 1, rfl, by omega, by rw [HS.out]; rfl, KW⟩
        case measure => simp [intOf]; omega
      | true =>
        rw [hc] at hb HS
        clear hc
        go_wp2_with fail
        go_roundw
        case rel => exact ⟨z + 1, rfl, by omega, by rw [HS.out]; rfl, KW⟩
        case measure => simp [intOf]; omega
end Go.Proofs.YtddbnmiennjnlaaGreatDoor
namespace Go.Proofs.YtddbnmiennjnlaaGreatDoor
open Go.RowKit
theorem CheckGroups_any (a b c : Int) (ha : 0 ≤ a) (hb : 0 ≤ b) (hc : 0 ≤ c) (ha' : a ≤ 255) (W : World) (hL : laidMetH Tryz.prog laid12x W) : Calls Tryz.prog 6 #[.int .u8 a, .int .u8 b, .int .u8 c] W fun e W' => e = .returned (.bool true) ∧ Below W.heap.size W W' := by
  obtain ⟨n, g, m, l, hE⟩ := lxEnv12_of hL
  obtain ⟨f, hF⟩ := ckEnv12_of hL
  obtain ⟨a, rfl⟩ := Int.eq_ofNat_of_zero_le ha
  obtain ⟨b, rfl⟩ := Int.eq_ofNat_of_zero_le hb
  obtain ⟨c, rfl⟩ := Int.eq_ofNat_of_zero_le hc
  exact (checkGroups_any _ _ n g m l f a b c W (by omega) hE hF).mono fun _ _ ⟨he, hg⟩ => ⟨he, below_grownL hg⟩
end Go.Proofs.YtddbnmiennjnlaaGreatDoor
namespace Go.Proofs.YtddbnmiennjnlaaGreatDoor
open Go.ChangeShapes Go.WideShapes Go.ChangeAt Go.RowKit Go.Joins
open Go.ChangeMaps (open_string shut_string)

set_option maxRecDepth 100000 in
theorem checkGroups_lifted (os : Os) (started : os.Started) (H : Type) (enc : TypeId × Value → H) :
    ReturnsInHanded {} Tryz.checked os 6 .any (fun w args => (Rows.checkGroupsSpec.pre enc Tryz.prog Tryz.f6 [] false w args ∧ laidMetH Tryz.prog laid12x w) ∧ sizedMet enc Tryz.prog Tryz.f6 (OpenSpec.ofChange Rows.checkGroupsSpec) false w args)
      (Rows.checkGroupsSpec.post enc Tryz.prog Tryz.f6 false true false false) := by
  refine returnsInHanded_of_change_and (C := Tryz.checked) (X := fun w _ => laidMetH Tryz.prog laid12x w) (fun _ _ _ hh h => h.of_heap hh) own started (by kernel_rfl) Tryz.func6
    (ChangeSpec.witness_shaped (enc := enc) (C := Tryz.checked) (os := os) (X := fun w _ => laidMetH Tryz.prog laid12x w) false (World.doorLaid Tryz.prog 400 os) #[.int .u8 0, .int .u8 0, .int .u8 0] 8 rfl (World.shaped_of_RefB (by kernel_rfl) (by kernel_rfl)) (by kernel_rfl) (by kernel_rfl) (by kernel_rfl) (door_met12x os _)) ?_
  intro W base args ds gs before hval0 hW _ _ hL _
  have hval : ∀ (j : Nat) t v, Tryz.f6.params[j]? = some t → args[j]? = some v → Value.okWide Tryz.prog W .any base t v := hval0
  have hW' := hW
  obtain ⟨p, q, hA0, hV, rfl, hfz, hnd⟩ := hW
  have hA : DataW.TrodAll enc Tryz.prog W 0 (fun _ => true) true Tryz.f6.params.toList args.toList ds p := hA0
  rw [Tryz.params6] at hA hval
  obtain ⟨v0, v1, v2, d0, d1, d2, p0, p1, p2, rfl, rfl, rfl, h0, h1, h2⟩ := trodAll_three hA
  obtain ⟨rfl, rfl⟩ := trodVars_none hV
  obtain ⟨n0, rfl, rfl, rfl, wn0⟩ := open_int Tryz.underlying5 (hval 0 5 v0 rfl rfl) h0
  have b0 : 0 ≤ n0 := by
    have h := wn0
    simp [Lit.wf, IntKind.min, IntKind.signed] at h
    omega
  have e0 : n0 ≤ 255 := by
    have h := wn0
    simp [Lit.wf, IntKind.min, IntKind.max, IntKind.signed, IntKind.bits] at h
    omega
  obtain ⟨n1, rfl, rfl, rfl, wn1⟩ := open_int Tryz.underlying5 (hval 1 5 v1 rfl rfl) h1
  have b1 : 0 ≤ n1 := by
    have h := wn1
    simp [Lit.wf, IntKind.min, IntKind.signed] at h
    omega
  have e1 : n1 ≤ 255 := by
    have h := wn1
    simp [Lit.wf, IntKind.min, IntKind.max, IntKind.signed, IntKind.bits] at h
    omega
  obtain ⟨n2, rfl, rfl, rfl, wn2⟩ := open_int Tryz.underlying5 (hval 2 5 v2 rfl rfl) h2
  have b2 : 0 ≤ n2 := by
    have h := wn2
    simp [Lit.wf, IntKind.min, IntKind.signed] at h
    omega
  have e2 : n2 ≤ 255 := by
    have h := wn2
    simp [Lit.wf, IntKind.min, IntKind.max, IntKind.signed, IntKind.bits] at h
    omega
  clear hA0 hval0
  simp only [List.append_nil] at hW'
  refine (CheckGroups_any n0 n1 n2 b0 b1 b2 e0 W hL).mono fun e W' ⟨he, hb⟩ => ?_
  subst he
  exact ⟨_, rfl, _, _, _, [], _, [], hW', trodAll_mk1 (shut_bool Tryz.underlying4 _), trodAll_mk3 (shut_int Tryz.underlying5 wn0) (shut_int Tryz.underlying5 wn1) (shut_int Tryz.underlying5 wn2), rfl, hb.frame _, fun h => by cases h⟩

theorem checkGroups_holds : Rows.CheckGroupsSaid :=
  OpenClaim.holds_of_wide 6 Tryz.f6 rfl rfl rfl rfl rfl rfl rfl ⟨rfl, rfl, rfl, rfl, rfl⟩ rfl rfl rfl rfl rfl (by kernel_rfl) Tryz.func6 (by kernel_rfl)
    (of_decide_eq_true (by kernel_rfl)) (by unfold Func.isWrapper; first | (rw [if_pos (by decide +kernel)]; kernel_rfl) | (rw [if_neg (by decide +kernel)]; exact ⟨rfl, rfl⟩))
    (fun os started H enc _ => checkGroups_lifted os started H enc)

theorem checkGroups_card : Rows.CheckGroupsCardSaid :=
  Claim7.holds_tied_plain_at .later [] [.data, .data, .data, .handle, .sentinel, .sentinel, .sentinel, .sentinel, .sentinel, .sentinel, .sentinel, .sentinel, .sentinel, .sentinel, .sentinel] true Rows.checkGroupsCard.stood.harness true
    checkGroups_holds (fun _ h => by cases h) (by kernel_rfl) (fun _ h => by cases h) checkGroups_row_tie rfl ⟨rfl, rfl⟩ (by kernel_rfl) rfl
    (fun f fn hf hfn => by
      obtain rfl : f = 6 := Option.some.inj ((show Tryz.prog.funcNamed "stillroom/stillroomlaw12.CheckGroups" = some 6 by kernel_rfl).symm.trans hf) |>.symm
      obtain rfl : fn = Tryz.f6 := (Option.some.inj (Tryz.func6.symm.trans hfn)).symm
      exact ⟨by kernel_rfl, fun j t ht => by
        rw [Tryz.params6] at ht
        have hm : t ∈ [5, 5, 5] := by simpa using Array.mem_of_getElem? ht
        have hall : ([5, 5, 5].all fun u => !Tryz.prog.wantsStandIn u) = true := by kernel_rfl
        exact (show Tryz.prog.wantsStandIn t = false by simpa using List.all_eq_true.1 hall t hm)⟩)
    (by kernel_rfl)
#print axioms checkGroups_card
end Go.Proofs.YtddbnmiennjnlaaGreatDoor
