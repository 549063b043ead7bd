/- Brackets and NOTs, so many of them: where the texts fail, by evaluation. The law ParseDeeps, walked: true at any number, brackets or NOTs. So many items, names, keys, literals; a LIMIT: where the texts fail, by evaluation. A LIMIT that may be is read: the mathematics. The law ParseLimits, walked: true at any two numbers. The law ParseLimits, in the row's words. PROVED: the card of ParseLimits: at every input, in whatever memory that meets the row's listed variables (which the card ties to the program's text), the call returns true and its arguments read as they did. No condition of our own. -/
import Derived.Test.YtppigamibgefaaaGreatDoorZp11
import Derived.Lib.Repeat
import Derived.Test.YtppigamibgefaaaGreatDoorZp30
import Derived.Lib.ItoaNum
import Derived.Test.YtppigamibgefaaaGreatDoorPaVxZ
import Derived.Test.YtppigamibgefaaaGreatDoorZp16
import Derived.Test.YtppigamibgefaaaGreatDoorCards
import Derived.Test.YtppigamibgefaaaGreatDoorTie
import Derived.SevenTiedAt
namespace Go.Proofs.YtppigamibgefaaaGreatDoor
open Go.RowKit

/-- Where a text fails: the place, the number. -/
def codeOf : Except (Nat × Nat) Qry → Option (Nat × Nat)
  | .error e => some e
  | .ok _ => none
def deepT (b : Bool) (k : Nat) : ByteArray := ⟨#[83, 69, 76, 69, 67, 84, 32, 42, 32, 70, 82, 79, 77, 32, 116, 32, 87, 72, 69, 82, 69, 32]⟩ ++ ⟨(Lib.repeatL (if b then [40, 32] else [78, 79, 84, 32]) k).toArray⟩ ++ ⟨#[84, 82, 85, 69]⟩ ++ ⟨(Lib.repeatL (if b then [41] else []) k).toArray⟩
theorem deep_code : ∀ b : Bool, ∀ k, k < 30 → codeOf (parseL (deepT b k)) = if k < 20 then none else some (if b then 62 else 102, 12) := by decide +kernel
end Go.Proofs.YtppigamibgefaaaGreatDoor
namespace Go.Proofs.YtppigamibgefaaaGreatDoor
open Go.RowKit

theorem reachP (x : Int) (M : Nat) (h0 : 0 < M) (h1 : M < 2000) : ∃ N : Nat, N < M ∧ wrap64 ((IntKind.u64.wrap x).tmod M) = (N : Int) := by
  have hw : 0 ≤ IntKind.u64.wrap x := by rw [IntKind.wrap_u64]; omega
  rw [Int.tmod_eq_emod_of_nonneg hw]
  have a := Int.emod_nonneg (IntKind.u64.wrap x) (show (M : Int) ≠ 0 by omega)
  have b := Int.emod_lt_of_pos (IntKind.u64.wrap x) (show (0 : Int) < M by omega)
  generalize IntKind.u64.wrap x % (M : Int) = z at *
  refine ⟨z.toNat, by omega, ?_⟩
  rw [IntWalk.wrap64_in z ⟨by omega, by omega⟩]
  omega
/-- What Parse answers where that is known. -/
theorem parseIs_ok {s : ByteArray} {w w' : World} {e : Ending} (hc : codeOf (parseL s) = none) (h : ParseIs s w e w') : w.grownBy w' none ∧ ∃ y : Qm, parseL s = .ok y.e ∧ e = .returned (.tuple #[.agg y.c, .int .i64 0, .int .i64 0]) ∧ QmS (fun j => w.heap.size ≤ j) w' y := by
  refine ⟨h.1, ?_⟩
  rcases h.2 with ⟨p, k, h1, h2⟩ | h
  · rw [h1] at hc; cases hc
  · exact h
theorem parseIs_err {s : ByteArray} {w w' : World} {e : Ending} {p k : Nat} (hc : codeOf (parseL s) = some (p, k)) (h : ParseIs s w e w') : w.grownBy w' none ∧ e = .returned (.tuple #[.agg (Qm.z 0).c, .int .i64 p, .int .i64 k]) := by
  refine ⟨h.1, ?_⟩
  rcases h.2 with ⟨p, k, h1, h2⟩ | ⟨y, h1, _⟩
  · rw [h1] at hc; cases hc; exact h2
  · rw [h1] at hc; cases hc
theorem rep_small (l : List UInt8) (k : Nat) (hl : l.length ≤ 4) (hk : k < 30) : (⟨(Lib.repeatL l k).toArray⟩ : ByteArray).size ≤ 120 := by
  show (Lib.repeatL l k).toArray.size ≤ 120
  rw [List.size_toArray, Lib.repeatL_length]
  have := Nat.mul_le_mul (show k ≤ 30 by omega) hl
  omega
set_option maxRecDepth 100000 in
set_option maxHeartbeats 3200000 in
theorem ParseDeeps_walk (G : Nat) (n g m l : Addr) (x : Int) (br : Bool) (w : World) (hE : LxEnv G n g m l w) :
    Calls Tryz.prog 6 #[.int .i64 x, .bool br] w fun e w' => e = .returned (.bool true) ∧ w.grownBy w' none := by
  have HA := Lib.hid (fun W (hW : w.grownBy W none) => awake11_any G n g m l W (hE.keep hW))
  obtain ⟨k, hk, hx⟩ : ∃ N : Nat, N < 30 ∧ wrap64 ((IntKind.u64.wrap x).tmod (30 : Int)) = (N : Int) := reachP x 30 (by omega) (by omega)
  have HP := Lib.hid (fun W (hW : w.grownBy W none) => parse_any G n g m l (deepT br k) W (hE.keep hW))
  have HC := Lib.hid (deep_code br k hk)
  have HR := Lib.hid (fun (s : ByteArray) (hs : s.size ≤ 4) W => Tryz.strings_Repeat s k W (by omega) (by have := Nat.mul_le_mul hs (show k ≤ 30 by omega); omega))
  have HX := Lib.hid hx
  clear hE hx
  have k0 : (0 : Int) ≤ k := by omega
  have k1 : (k : Int) < 30 := by omega
  go_enter Tryz.func6, Tryz.ntmps6
  go_wp2_with fail
  refine (HA.out _ (grown_reflX _ _)).mono ?_
  rintro e w1 ⟨rfl, hg⟩
  have K1 := Lib.hid hg
  clear hg
  go_upto_region 3 with (fail)
  go_cut [5] (fun a wx => a = .int .i64 k ∧ w1 = wx)
  case first =>
    go_wp2_with fail
    go_meet
    exact ⟨by rw [← HX.out], rfl⟩
  case rest =>
  obtain ⟨rfl, rfl⟩ := hcut
  cases br with
  | true =>
    have HR1 := Lib.hid (fun W => HR.out ⟨#[40, 32]⟩ (by decide) W)
    have HR2 := Lib.hid (fun W => HR.out ⟨#[41]⟩ (by decide) W)
    have e1 : (⟨#[40, 32]⟩ : ByteArray).data.toList = [40, 32] := rfl
    have e2 : (⟨#[41]⟩ : ByteArray).data.toList = [41] := rfl
    rw [e1] at HR1
    rw [e2] at HR2
    clear e1 e2 HR
    unfold deepT at HP HC
    simp only [if_true] at HP HC
    have b1 := rep_small [40, 32] k (by decide) hk
    have b2 := rep_small [41] k (by decide) hk
    generalize (⟨(Lib.repeatL [40, 32] k).toArray⟩ : ByteArray) = R1 at *
    generalize (⟨(Lib.repeatL [41] k).toArray⟩ : ByteArray) = R2 at *
    go_wp2_with fail
    refine (HR1.out _).mono ?_
    rintro e w2 ⟨rfl, hb⟩
    have K2 := Lib.hid (K1.out.trans (grown_belowX hb none))
    clear hb
    go_wp2_with fail
    refine (HR2.out _).mono ?_
    rintro e w3 ⟨rfl, hb⟩
    have K3 := Lib.hid (K2.out.trans (grown_belowX hb none))
    clear hb
    go_wp2_with fail
    refine (HP.out _ K3.out).mono ?_
    intro e w4 h4
    have B5 := Lib.hid (heap_alloc_new w4 (.cells (Qm.z 0).c 34))
    by_cases h20 : k < 20
    · rw [if_pos h20] at HC
      obtain ⟨hg4, y, _, rfl, _⟩ := parseIs_ok HC.out h4
      have K4 := Lib.hid (grown_thenX ((K3.out.trans hg4).trans (World.grownBy_alloc w4 (.cells (Qm.z 0).c 34) none)) (grown_setRow _ w4.heap.size y.c) (fun j e => by cases e; exact (K3.out.trans hg4).size))
      have i20 : (k : Int) < 20 := by omega
      clear h4 hg4 HC HP
      go_wp2_with (refine wpList_store_row rfl 34 (.tmp 8) (.tmp 29) rfl w4.heap.size y.c rfl rfl 34 (Qm.z 0).c B5.out (by rw [Qm.c_size]; exact query_size) (by rw [Qm.c_size, Qm.c_size]) (Qm.c_all _) ?_)
      go_ret
      exact ⟨rfl, K4.out⟩
    · rw [if_neg h20] at HC
      obtain ⟨hg4, rfl⟩ := parseIs_err HC.out h4
      have K4 := Lib.hid (grown_thenX ((K3.out.trans hg4).trans (World.grownBy_alloc w4 (.cells (Qm.z 0).c 34) none)) (grown_setRow _ w4.heap.size (Qm.z 0).c) (fun j e => by cases e; exact (K3.out.trans hg4).size))
      have i20 : ¬ (k : Int) < 20 := by omega
      clear h4 hg4 HC HP
      go_wp2_with (refine wpList_store_row rfl 34 (.tmp 8) (.tmp 29) rfl w4.heap.size (Qm.z 0).c rfl rfl 34 (Qm.z 0).c B5.out (by rw [Qm.c_size]; exact query_size) (by rw [Qm.c_size]) (Qm.c_all _) ?_)
      go_ret
      exact ⟨rfl, K4.out⟩
  | false =>
    have HR1 := Lib.hid (fun W => HR.out ⟨#[78, 79, 84, 32]⟩ (by decide) W)
    have HR2 := Lib.hid (fun W => HR.out ⟨#[]⟩ (by decide) W)
    have e1 : (⟨#[78, 79, 84, 32]⟩ : ByteArray).data.toList = [78, 79, 84, 32] := rfl
    have e2 : (⟨#[]⟩ : ByteArray).data.toList = [] := rfl
    rw [e1] at HR1
    rw [e2] at HR2
    clear e1 e2 HR
    unfold deepT at HP HC
    simp only [Bool.false_eq_true, if_false] at HP HC
    have b1 := rep_small [78, 79, 84, 32] k (by decide) hk
    have b2 := rep_small [] k (by decide) hk
    generalize (⟨(Lib.repeatL [78, 79, 84, 32] k).toArray⟩ : ByteArray) = R1 at *
    generalize (⟨(Lib.repeatL [] k).toArray⟩ : ByteArray) = R2 at *
    go_wp2_with fail
    refine (HR1.out _).mono ?_
    rintro e w2 ⟨rfl, hb⟩
    have K2 := Lib.hid (K1.out.trans (grown_belowX hb none))
    clear hb
    go_wp2_with fail
    refine (HR2.out _).mono ?_
    rintro e w3 ⟨rfl, hb⟩
    have K3 := Lib.hid (K2.out.trans (grown_belowX hb none))
    clear hb
    go_wp2_with fail
    refine (HP.out _ K3.out).mono ?_
    intro e w4 h4
    have B5 := Lib.hid (heap_alloc_new w4 (.cells (Qm.z 0).c 34))
    by_cases h20 : k < 20
    · rw [if_pos h20] at HC
      obtain ⟨hg4, y, _, rfl, _⟩ := parseIs_ok HC.out h4
      have K4 := Lib.hid (grown_thenX ((K3.out.trans hg4).trans (World.grownBy_alloc w4 (.cells (Qm.z 0).c 34) none)) (grown_setRow _ w4.heap.size y.c) (fun j e => by cases e; exact (K3.out.trans hg4).size))
      have i20 : (k : Int) < 20 := by omega
      clear h4 hg4 HC HP
      go_wp2_with (refine wpList_store_row rfl 34 (.tmp 8) (.tmp 29) rfl w4.heap.size y.c rfl rfl 34 (Qm.z 0).c B5.out (by rw [Qm.c_size]; exact query_size) (by rw [Qm.c_size, Qm.c_size]) (Qm.c_all _) ?_)
      go_ret
      exact ⟨rfl, K4.out⟩
    · rw [if_neg h20] at HC
      obtain ⟨hg4, rfl⟩ := parseIs_err HC.out h4
      have K4 := Lib.hid (grown_thenX ((K3.out.trans hg4).trans (World.grownBy_alloc w4 (.cells (Qm.z 0).c 34) none)) (grown_setRow _ w4.heap.size (Qm.z 0).c) (fun j e => by cases e; exact (K3.out.trans hg4).size))
      have i20 : ¬ (k : Int) < 20 := by omega
      clear h4 hg4 HC HP
      go_wp2_with (refine wpList_store_row rfl 34 (.tmp 8) (.tmp 29) rfl w4.heap.size (Qm.z 0).c rfl rfl 34 (Qm.z 0).c B5.out (by rw [Qm.c_size]; exact query_size) (by rw [Qm.c_size]) (Qm.c_all _) ?_)
      go_ret
      exact ⟨rfl, K4.out⟩
end Go.Proofs.YtppigamibgefaaaGreatDoor
namespace Go.Proofs.YtppigamibgefaaaGreatDoor
open Go.RowKit

def limT (i q : Nat) : ByteArray :=
  if i = 0 then ⟨#[83, 69, 76, 69, 67, 84, 32]⟩ ++ (⟨(Lib.repeatL [97, 44] q).toArray⟩ ++ ⟨#[97]⟩) ++ ⟨#[32, 70, 82, 79, 77, 32, 116]⟩
  else if i = 1 then ⟨#[83, 69, 76, 69, 67, 84, 32, 42, 32, 70, 82, 79, 77, 32, 116, 32, 71, 82, 79, 85, 80, 32, 66, 89, 32]⟩ ++ (⟨(Lib.repeatL [97, 44] q).toArray⟩ ++ ⟨#[97]⟩)
  else if i = 2 then ⟨#[83, 69, 76, 69, 67, 84, 32, 42, 32, 70, 82, 79, 77, 32, 116, 32, 79, 82, 68, 69, 82, 32, 66, 89, 32]⟩ ++ (⟨(Lib.repeatL [97, 44] q).toArray⟩ ++ ⟨#[97]⟩)
  else ⟨#[83, 69, 76, 69, 67, 84, 32, 42, 32, 70, 82, 79, 77, 32, 116, 32, 87, 72, 69, 82, 69, 32, 97, 32, 73, 78, 40]⟩ ++ (⟨(Lib.repeatL [49, 44] q).toArray⟩ ++ ⟨#[49]⟩) ++ ⟨#[41]⟩
theorem lim_code : ∀ i, i < 4 → ∀ q, q < 14 → codeOf (parseL (limT i q)) = if q < [8, 8, 8, 12].getD i 0 then none else some ([23, 41, 41, 51].getD i 0, 3) := by decide +kernel
/-- The text of a LIMIT. -/
def limitT (m : Nat) : ByteArray := ⟨#[83, 69, 76, 69, 67, 84, 32, 42, 32, 70, 82, 79, 77, 32, 116, 32, 76, 73, 77, 73, 84, 32]⟩ ++ ⟨(Lib.decDigits m).toArray⟩
theorem limit_bad0 : ∀ j, j < 9 → codeOf (parseL (⟨#[83, 69, 76, 69, 67, 84, 32, 42, 32, 70, 82, 79, 77, 32, 116, 32, 76, 73, 77, 73, 84, 32]⟩ ++ ⟨#[49, 48, 48, UInt8.ofNat (49 + j)]⟩)) = some (22, 1) := by decide +kernel
theorem dig_1000 (j : Nat) (h : j < 9) : Lib.decDigits (1001 + j) = [49, 48, 48, UInt8.ofNat (49 + j)] := by
  rw [Lib.decDigits, dif_neg (by omega), Lib.decDigits, dif_neg (by omega), Lib.decDigits, dif_neg (by omega), Lib.decDigits, dif_pos (by omega)]
  rw [show (1001 + j) / 10 / 10 / 10 = 1 by omega, show (1001 + j) / 10 / 10 % 10 = 0 by omega, show (1001 + j) / 10 % 10 = 0 by omega, show (1001 + j) % 10 = 1 + j by omega, show 48 + (1 + j) = 49 + j by omega]
  rfl
theorem limit_bad (m : Nat) (h1 : 1000 < m) (h2 : m < 1010) : codeOf (parseL (limitT m)) = some (22, 1) := by
  have := limit_bad0 (m - 1001) (by omega)
  unfold limitT
  obtain ⟨j, rfl⟩ : ∃ j, m = 1001 + j := ⟨m - 1001, by omega⟩
  rw [dig_1000 j (by omega)]
  rw [show 1001 + j - 1001 = j by omega] at this
  exact this
end Go.Proofs.YtppigamibgefaaaGreatDoor
namespace Go.Proofs.YtppigamibgefaaaGreatDoor
open Go.RowKit

theorem digits_val (m : Nat) (hm : m ≤ 1000) : ValT (Lib.decDigits m) ⟨2, m, ⟨#[]⟩⟩ 2 := by
  have hg : goodB 2 (m : Int) ⟨#[]⟩ = true := by
    unfold goodB
    rw [if_neg (by decide), if_neg (by decide), if_pos rfl, Lib.toList_data]
    rfl
  have hn : inI (m : Int) = true := by rw [inI_iff]; omega
  have e : textL 2 (m : Int) ⟨#[]⟩ = Lib.decDigits m := by
    show Lib.itoa (m : Int) = _
    unfold Lib.itoa
    rw [if_neg (by omega)]
    rfl
  obtain ⟨kd, hv⟩ := valT_of hg hn
  rw [e] at hv
  have ht := (tok_int (m : Int) ⟨#[]⟩ hg hn).1
  rw [e] at ht
  have hk : kd = 2 := by
    have := hv.tok
    rw [ht] at this
    exact (congrArg Prod.fst this).symm
  rw [hk] at hv
  exact hv
theorem query_limit (t : List UInt8) (m : Nat) (hm : m ≤ 1000) (hv : ValT t ⟨2, m, ⟨#[]⟩⟩ 2) :
    queryL ⟨[tkOf (5, [83, 69, 76, 69, 67, 84]), tkOf (4, [42]), tkOf (5, [70, 82, 79, 77]), tkOf (1, [116]), tkOf (5, [76, 73, 77, 73, 84]), tkOf (2, t), tkEnd], none⟩ = (⟨[tkEnd], none⟩, ⟨[], true, ⟨#[116]⟩, Prd.none, [], [], m⟩) := by
  have e1 : itemsQ ((⟨[tkOf (5, [83, 69, 76, 69, 67, 84]), tkOf (4, [42]), tkOf (5, [70, 82, 79, 77]), tkOf (1, [116]), tkOf (5, [76, 73, 77, 73, 84]), tkOf (2, t), tkEnd], none⟩ : RS).need bSel) = (⟨[tkOf (5, [70, 82, 79, 77]), tkOf (1, [116]), tkOf (5, [76, 73, 77, 73, 84]), tkOf (2, t), tkEnd], none⟩, true, []) := by rfl
  have e2 : ((⟨[tkOf (5, [70, 82, 79, 77]), tkOf (1, [116]), tkOf (5, [76, 73, 77, 73, 84]), tkOf (2, t), tkEnd], none⟩ : RS).need bFrom).name = (⟨[tkOf (5, [76, 73, 77, 73, 84]), tkOf (2, t), tkEnd], none⟩, ⟨#[116]⟩) := by rfl
  have e3 : whereQ ⟨[tkOf (5, [76, 73, 77, 73, 84]), tkOf (2, t), tkEnd], none⟩ = (⟨[tkOf (5, [76, 73, 77, 73, 84]), tkOf (2, t), tkEnd], none⟩, Prd.none) := by
    unfold whereQ
    rw [if_neg (comes_noT (by decide))]
  have e4 : groupQ ⟨[tkOf (5, [76, 73, 77, 73, 84]), tkOf (2, t), tkEnd], none⟩ = (⟨[tkOf (5, [76, 73, 77, 73, 84]), tkOf (2, t), tkEnd], none⟩, []) := by
    unfold groupQ
    rw [if_neg (comes_noT (by decide))]
  have e5 : orderQ ⟨[tkOf (5, [76, 73, 77, 73, 84]), tkOf (2, t), tkEnd], none⟩ = (⟨[tkOf (5, [76, 73, 77, 73, 84]), tkOf (2, t), tkEnd], none⟩, []) := by
    unfold orderQ
    rw [if_neg (comes_noT (by decide))]
  have e6 : limitQ ⟨[tkOf (5, [76, 73, 77, 73, 84]), tkOf (2, t), tkEnd], none⟩ = (⟨[tkEnd], none⟩, (m : Int)) := by
    unfold limitQ
    rw [if_pos (by rfl)]
    show limitL ⟨[tkOf (2, t), tkEnd], none⟩ = _
    unfold limitL
    rw [if_pos (by rfl)]
    have hl : litV (⟨[tkOf (2, t), tkEnd], none⟩ : RS).hd.text = ⟨2, m, ⟨#[]⟩⟩ := hv.lit
    simp only [hl]
    rw [if_neg (by omega)]
    rfl
  unfold queryL
  simp only [e1, e2, e3, e4, e5, e6]
  rfl
theorem limit_ok (m : Nat) (hm : m ≤ 1000) : ∃ y : Qry, parseL (limitT m) = .ok y ∧ y.limit = m := by
  have hv := digits_val m hm
  have hT : (limitT m).data.toList = [83, 69, 76, 69, 67, 84, 32, 42, 32, 70, 82, 79, 77, 32, 116, 32, 76, 73, 77, 73, 84, 32] ++ Lib.decDigits m := by simp [limitT]
  have hts : Toks (limitT m).data.toList [(5, [83, 69, 76, 69, 67, 84]), (4, [42]), (5, [70, 82, 79, 77]), (1, [116]), (5, [76, 73, 77, 73, 84]), (2, Lib.decDigits m)] := by
    rw [hT]
    refine .more _ [] [83, 69, 76, 69, 67, 84] ([32, 42, 32, 70, 82, 79, 77, 32, 116, 32, 76, 73, 77, 73, 84, 32] ++ Lib.decDigits m) 5 _ rfl blank0 (by simp) (by rfl) ?_
    refine .more _ [32] [42] ([32, 70, 82, 79, 77, 32, 116, 32, 76, 73, 77, 73, 84, 32] ++ Lib.decDigits m) 4 _ rfl blank32 (by simp) (by rfl) ?_
    refine .more _ [32] [70, 82, 79, 77] ([32, 116, 32, 76, 73, 77, 73, 84, 32] ++ Lib.decDigits m) 5 _ rfl blank32 (by simp) (by rfl) ?_
    refine .more _ [32] [116] ([32, 76, 73, 77, 73, 84, 32] ++ Lib.decDigits m) 1 _ rfl blank32 (by simp) (by rfl) ?_
    refine .more _ [32] [76, 73, 77, 73, 84] ([32] ++ Lib.decDigits m) 5 _ rfl blank32 (by simp) (by rfl) ?_
    exact .more _ [32] (Lib.decDigits m) [] 2 _ (by simp) blank32 hv.ne (by rw [List.append_nil]; exact hv.tok) (.last [] blank0)
  have hq := query_limit _ m hm hv
  have hs : (limitT m).size ≤ 1500 := by
    rw [size_list hT, List.length_append]
    have := hv.few
    simp only [List.length_cons, List.length_nil]; omega
  obtain ⟨y, h1, h2⟩ := toks_parse (limitT m) hts hs (by simp) (⟨[], true, ⟨#[116]⟩, Prd.none, [], [], m⟩ : Qry).e (by
    simp only [List.map_cons, List.map_nil, List.cons_append, List.nil_append]
    rw [hq]) (by
    simp only [List.map_cons, List.map_nil, List.cons_append, List.nil_append]
    rw [hq])
  exact ⟨y, h1, congrArg Qry.limit h2⟩
end Go.Proofs.YtppigamibgefaaaGreatDoor
namespace Go.Proofs.YtppigamibgefaaaGreatDoor
open Go.RowKit

theorem rep_smallL (l : List UInt8) (k : Nat) (hl : l.length ≤ 2) (hk : k < 14) : (⟨(Lib.repeatL l k).toArray⟩ : ByteArray).size ≤ 28 := by
  show (Lib.repeatL l k).toArray.size ≤ 28
  rw [List.size_toArray, Lib.repeatL_length]
  have := Nat.mul_le_mul (show k ≤ 14 by omega) hl
  omega
theorem ix4s0 (s0 s1 s2 s3 : ByteArray) (w : World) : (Instr.index 58 (.agg #[.string s0, .string s1, .string s2, .string s3]) (.int .i64 0)).run Tryz.prog w = .ok (.string s0) w := by kernel_rfl
theorem ix4n0 (n0 n1 n2 n3 : Int) (w : World) : (Instr.index 59 (.agg #[.int .i64 n0, .int .i64 n1, .int .i64 n2, .int .i64 n3]) (.int .i64 0)).run Tryz.prog w = .ok (.int .i64 n0) w := by kernel_rfl
theorem ix4s1 (s0 s1 s2 s3 : ByteArray) (w : World) : (Instr.index 58 (.agg #[.string s0, .string s1, .string s2, .string s3]) (.int .i64 1)).run Tryz.prog w = .ok (.string s1) w := by kernel_rfl
theorem ix4n1 (n0 n1 n2 n3 : Int) (w : World) : (Instr.index 59 (.agg #[.int .i64 n0, .int .i64 n1, .int .i64 n2, .int .i64 n3]) (.int .i64 1)).run Tryz.prog w = .ok (.int .i64 n1) w := by kernel_rfl
theorem ix4s2 (s0 s1 s2 s3 : ByteArray) (w : World) : (Instr.index 58 (.agg #[.string s0, .string s1, .string s2, .string s3]) (.int .i64 2)).run Tryz.prog w = .ok (.string s2) w := by kernel_rfl
theorem ix4n2 (n0 n1 n2 n3 : Int) (w : World) : (Instr.index 59 (.agg #[.int .i64 n0, .int .i64 n1, .int .i64 n2, .int .i64 n3]) (.int .i64 2)).run Tryz.prog w = .ok (.int .i64 n2) w := by kernel_rfl
theorem ix4s3 (s0 s1 s2 s3 : ByteArray) (w : World) : (Instr.index 58 (.agg #[.string s0, .string s1, .string s2, .string s3]) (.int .i64 3)).run Tryz.prog w = .ok (.string s3) w := by kernel_rfl
theorem ix4n3 (n0 n1 n2 n3 : Int) (w : World) : (Instr.index 59 (.agg #[.int .i64 n0, .int .i64 n1, .int .i64 n2, .int .i64 n3]) (.int .i64 3)).run Tryz.prog w = .ok (.int .i64 n3) w := by kernel_rfl
set_option maxRecDepth 100000 in
set_option maxHeartbeats 6400000 in
theorem ParseLimits_walk (G : Nat) (n g m l : Addr) (x y : Int) (w : World) (hE : LxEnv G n g m l w) :
    Calls Tryz.prog 7 #[.int .i64 x, .int .i64 y] w fun e w' => e = .returned (.bool true) ∧ w.grownBy w' none := by
  have HA := Lib.hid (fun W (hW : w.grownBy W none) => awake11_any G n g m l W (hE.keep hW))
  obtain ⟨q, hq, hx⟩ : ∃ N : Nat, N < 14 ∧ wrap64 ((IntKind.u64.wrap x).tmod (14 : Int)) = (N : Int) := reachP x 14 (by omega) (by omega)
  obtain ⟨K, hK, hy⟩ : ∃ N : Nat, N < 1010 ∧ wrap64 ((IntKind.u64.wrap y).tmod (1010 : Int)) = (N : Int) := reachP y 1010 (by omega) (by omega)
  have HPL := Lib.hid (fun (s : ByteArray) W (hW : w.grownBy W none) => parse_any G n g m l s W (hE.keep hW))
  have HR := Lib.hid (fun (s : ByteArray) (hs : s.size ≤ 4) W => Tryz.strings_Repeat s q W (by omega) (by have := Nat.mul_le_mul hs (show q ≤ 30 by omega); omega))
  have HD := Lib.hid (fun W => refDigits_any K (by omega) W)
  have HC := Lib.hid (fun i (hi : i < 4) => lim_code i hi q hq)
  have HX := Lib.hid hx
  have HY := Lib.hid hy
  clear hE hx hy
  have k0 : (0 : Int) ≤ q := by omega
  have k1 : (q : Int) < 14 := by omega
  have m0 : (0 : Int) ≤ K := by omega
  have m1 : (K : Int) < 1010 := by omega
  go_enter Tryz.func7, Tryz.ntmps7
  go_wp2_with fail
  refine (HA.out _ (grown_reflX _ _)).mono ?_
  rintro e w1 ⟨rfl, hg⟩
  have K1 := Lib.hid hg
  clear hg
  go_upto_region 3 with (fail)
  go_cut [5, 6] (fun a b wx => a = .int .i64 ((q : Int) + 1) ∧ b = .int .i64 K ∧ w1 = wx)
  case first =>
    go_wp2_with fail
    go_meet
    refine ⟨?_, by rw [← HY.out], rfl⟩
    rw [HX.out, IntWalk.wrap64_in _ ⟨by omega, by omega⟩]
  case rest =>
  obtain ⟨rfl, rfl, rfl⟩ := hcut
  have HR1 := Lib.hid (fun W => HR.out ⟨#[97, 44]⟩ (by decide) W)
  have HR2 := Lib.hid (fun W => HR.out ⟨#[49, 44]⟩ (by decide) W)
  have e1 : (⟨#[97, 44]⟩ : ByteArray).data.toList = [97, 44] := rfl
  have e2 : (⟨#[49, 44]⟩ : ByteArray).data.toList = [49, 44] := rfl
  rw [e1] at HR1
  rw [e2] at HR2
  clear e1 e2 HR
  have HC0 : Hid (codeOf (parseL (⟨#[83, 69, 76, 69, 67, 84, 32]⟩ ++ (⟨(Lib.repeatL [97, 44] q).toArray⟩ ++ ⟨#[97]⟩) ++ ⟨#[32, 70, 82, 79, 77, 32, 116]⟩)) = if q < 8 then none else some (23, 3)) := Lib.hid (HC.out 0 (by decide))
  have HC1 : Hid (codeOf (parseL (⟨#[83, 69, 76, 69, 67, 84, 32, 42, 32, 70, 82, 79, 77, 32, 116, 32, 71, 82, 79, 85, 80, 32, 66, 89, 32]⟩ ++ (⟨(Lib.repeatL [97, 44] q).toArray⟩ ++ ⟨#[97]⟩))) = if q < 8 then none else some (41, 3)) := Lib.hid (HC.out 1 (by decide))
  have HC2 : Hid (codeOf (parseL (⟨#[83, 69, 76, 69, 67, 84, 32, 42, 32, 70, 82, 79, 77, 32, 116, 32, 79, 82, 68, 69, 82, 32, 66, 89, 32]⟩ ++ (⟨(Lib.repeatL [97, 44] q).toArray⟩ ++ ⟨#[97]⟩))) = if q < 8 then none else some (41, 3)) := Lib.hid (HC.out 2 (by decide))
  have HC3 : Hid (codeOf (parseL (⟨#[83, 69, 76, 69, 67, 84, 32, 42, 32, 70, 82, 79, 77, 32, 116, 32, 87, 72, 69, 82, 69, 32, 97, 32, 73, 78, 40]⟩ ++ (⟨(Lib.repeatL [49, 44] q).toArray⟩ ++ ⟨#[49]⟩) ++ ⟨#[41]⟩)) = if q < 12 then none else some (51, 3)) := Lib.hid (HC.out 3 (by decide))
  have b1 := rep_smallL [97, 44] q (by decide) hq
  have b2 := rep_smallL [49, 44] q (by decide) hq
  clear HC
  generalize (⟨(Lib.repeatL [97, 44] q).toArray⟩ : ByteArray) = R1 at *
  generalize (⟨(Lib.repeatL [49, 44] q).toArray⟩ : ByteArray) = R2 at *
  go_wp2_with fail
  refine (HR1.out _).mono ?_
  rintro e w2 ⟨rfl, hb⟩
  have K2 := Lib.hid (K1.out.trans (grown_belowX hb none))
  clear hb
  go_wp2_with fail
  refine (HR2.out _).mono ?_
  rintro e w3 ⟨rfl, hb⟩
  have K3 := Lib.hid (K2.out.trans (grown_belowX hb none))
  clear hb
  go_wp2_with fail
  go_loopw [48] (fun i wr => ∃ j : Nat, i = .int .i64 j ∧ j ≤ 4 ∧ Hid (w.grownBy wr none)) (fun i _ => 4 - (intOf i).toNat)
  case atStart => exact ⟨0, rfl, by omega, K3⟩
  case round =>
    obtain ⟨j, rfl, hj, KW⟩ := hrel
    by_cases hj0 : j = 0
    · subst hj0
      have ix1 := ix4s0
      have ix2 := ix4n0
      go_wp2_with fail
      refine (HPL.out _ _ KW.out).mono ?_
      intro e w4 h4
      have B5 := Lib.hid (heap_alloc_new w4 (.cells (Qm.z 0).c 34))
      by_cases h20 : q < 8
      · rw [if_pos h20] at HC0
        obtain ⟨hg4, y, _, rfl, _⟩ := parseIs_ok HC0.out h4
        have K4 := Lib.hid (grown_thenX ((KW.out.trans hg4).trans (World.grownBy_alloc w4 (.cells (Qm.z 0).c 34) none)) (grown_setRow _ w4.heap.size y.c) (fun j e => by cases e; exact (KW.out.trans hg4).size))
        have i20 : (q : Int) + 1 ≤ 8 := by omega
        clear h4 hg4 HC0 HC1 HC2 HC3
        go_wp2_with (refine wpList_store_row rfl 34 (.tmp 11) (.tmp 55) rfl w4.heap.size y.c rfl rfl 34 (Qm.z 0).c B5.out (by rw [Qm.c_size]; exact query_size) (by first | rw [Qm.c_size, Qm.c_size] | rw [Qm.c_size]) (Qm.c_all _) ?_)
        go_roundw
        case rel => exact ⟨1, rfl, by omega, K4⟩
        case measure => simp [intOf]
      · rw [if_neg h20] at HC0
        obtain ⟨hg4, rfl⟩ := parseIs_err HC0.out h4
        have K4 := Lib.hid (grown_thenX ((KW.out.trans hg4).trans (World.grownBy_alloc w4 (.cells (Qm.z 0).c 34) none)) (grown_setRow _ w4.heap.size (Qm.z 0).c) (fun j e => by cases e; exact (KW.out.trans hg4).size))
        have i20 : ¬ (q : Int) + 1 ≤ 8 := by omega
        clear h4 hg4 HC0 HC1 HC2 HC3
        go_wp2_with (refine wpList_store_row rfl 34 (.tmp 11) (.tmp 55) rfl w4.heap.size (Qm.z 0).c rfl rfl 34 (Qm.z 0).c B5.out (by rw [Qm.c_size]; exact query_size) (by first | rw [Qm.c_size, Qm.c_size] | rw [Qm.c_size]) (Qm.c_all _) ?_)
        go_roundw
        case rel => exact ⟨1, rfl, by omega, K4⟩
        case measure => simp [intOf]
    by_cases hj1 : j = 1
    · subst hj1
      have ix1 := ix4s1
      have ix2 := ix4n1
      go_wp2_with fail
      refine (HPL.out _ _ KW.out).mono ?_
      intro e w4 h4
      have B5 := Lib.hid (heap_alloc_new w4 (.cells (Qm.z 0).c 34))
      by_cases h20 : q < 8
      · rw [if_pos h20] at HC1
        obtain ⟨hg4, y, _, rfl, _⟩ := parseIs_ok HC1.out h4
        have K4 := Lib.hid (grown_thenX ((KW.out.trans hg4).trans (World.grownBy_alloc w4 (.cells (Qm.z 0).c 34) none)) (grown_setRow _ w4.heap.size y.c) (fun j e => by cases e; exact (KW.out.trans hg4).size))
        have i20 : (q : Int) + 1 ≤ 8 := by omega
        clear h4 hg4 HC0 HC1 HC2 HC3
        go_wp2_with (refine wpList_store_row rfl 34 (.tmp 11) (.tmp 55) rfl w4.heap.size y.c rfl rfl 34 (Qm.z 0).c B5.out (by rw [Qm.c_size]; exact query_size) (by first | rw [Qm.c_size, Qm.c_size] | rw [Qm.c_size]) (Qm.c_all _) ?_)
        go_roundw
        case rel => exact ⟨2, rfl, by omega, K4⟩
        case measure => simp [intOf]
      · rw [if_neg h20] at HC1
        obtain ⟨hg4, rfl⟩ := parseIs_err HC1.out h4
        have K4 := Lib.hid (grown_thenX ((KW.out.trans hg4).trans (World.grownBy_alloc w4 (.cells (Qm.z 0).c 34) none)) (grown_setRow _ w4.heap.size (Qm.z 0).c) (fun j e => by cases e; exact (KW.out.trans hg4).size))
        have i20 : ¬ (q : Int) + 1 ≤ 8 := by omega
        clear h4 hg4 HC0 HC1 HC2 HC3
        go_wp2_with (refine wpList_store_row rfl 34 (.tmp 11) (.tmp 55) rfl w4.heap.size (Qm.z 0).c rfl rfl 34 (Qm.z 0).c B5.out (by rw [Qm.c_size]; exact query_size) (by first | rw [Qm.c_size, Qm.c_size] | rw [Qm.c_size]) (Qm.c_all _) ?_)
        go_roundw
        case rel => exact ⟨2, rfl, by omega, K4⟩
        case measure => simp [intOf]
    by_cases hj2 : j = 2
    · subst hj2
      have ix1 := ix4s2
      have ix2 := ix4n2
      go_wp2_with fail
      refine (HPL.out _ _ KW.out).mono ?_
      intro e w4 h4
      have B5 := Lib.hid (heap_alloc_new w4 (.cells (Qm.z 0).c 34))
      by_cases h20 : q < 8
      · rw [if_pos h20] at HC2
        obtain ⟨hg4, y, _, rfl, _⟩ := parseIs_ok HC2.out h4
        have K4 := Lib.hid (grown_thenX ((KW.out.trans hg4).trans (World.grownBy_alloc w4 (.cells (Qm.z 0).c 34) none)) (grown_setRow _ w4.heap.size y.c) (fun j e => by cases e; exact (KW.out.trans hg4).size))
        have i20 : (q : Int) + 1 ≤ 8 := by omega
        clear h4 hg4 HC0 HC1 HC2 HC3
        go_wp2_with (refine wpList_store_row rfl 34 (.tmp 11) (.tmp 55) rfl w4.heap.size y.c rfl rfl 34 (Qm.z 0).c B5.out (by rw [Qm.c_size]; exact query_size) (by first | rw [Qm.c_size, Qm.c_size] | rw [Qm.c_size]) (Qm.c_all _) ?_)
        go_roundw
        case rel => exact ⟨3, rfl, by omega, K4⟩
        case measure => simp [intOf]
      · rw [if_neg h20] at HC2
        obtain ⟨hg4, rfl⟩ := parseIs_err HC2.out h4
        have K4 := Lib.hid (grown_thenX ((KW.out.trans hg4).trans (World.grownBy_alloc w4 (.cells (Qm.z 0).c 34) none)) (grown_setRow _ w4.heap.size (Qm.z 0).c) (fun j e => by cases e; exact (KW.out.trans hg4).size))
        have i20 : ¬ (q : Int) + 1 ≤ 8 := by omega
        clear h4 hg4 HC0 HC1 HC2 HC3
        go_wp2_with (refine wpList_store_row rfl 34 (.tmp 11) (.tmp 55) rfl w4.heap.size (Qm.z 0).c rfl rfl 34 (Qm.z 0).c B5.out (by rw [Qm.c_size]; exact query_size) (by first | rw [Qm.c_size, Qm.c_size] | rw [Qm.c_size]) (Qm.c_all _) ?_)
        go_roundw
        case rel => exact ⟨3, rfl, by omega, K4⟩
        case measure => simp [intOf]
    by_cases hj3 : j = 3
    · subst hj3
      have ix1 := ix4s3
      have ix2 := ix4n3
      go_wp2_with fail
      refine (HPL.out _ _ KW.out).mono ?_
      intro e w4 h4
      have B5 := Lib.hid (heap_alloc_new w4 (.cells (Qm.z 0).c 34))
      by_cases h20 : q < 12
      · rw [if_pos h20] at HC3
        obtain ⟨hg4, y, _, rfl, _⟩ := parseIs_ok HC3.out h4
        have K4 := Lib.hid (grown_thenX ((KW.out.trans hg4).trans (World.grownBy_alloc w4 (.cells (Qm.z 0).c 34) none)) (grown_setRow _ w4.heap.size y.c) (fun j e => by cases e; exact (KW.out.trans hg4).size))
        have i20 : (q : Int) + 1 ≤ 12 := by omega
        clear h4 hg4 HC0 HC1 HC2 HC3
        go_wp2_with (refine wpList_store_row rfl 34 (.tmp 11) (.tmp 55) rfl w4.heap.size y.c rfl rfl 34 (Qm.z 0).c B5.out (by rw [Qm.c_size]; exact query_size) (by first | rw [Qm.c_size, Qm.c_size] | rw [Qm.c_size]) (Qm.c_all _) ?_)
        go_roundw
        case rel => exact ⟨4, rfl, by omega, K4⟩
        case measure => simp [intOf]
      · rw [if_neg h20] at HC3
        obtain ⟨hg4, rfl⟩ := parseIs_err HC3.out h4
        have K4 := Lib.hid (grown_thenX ((KW.out.trans hg4).trans (World.grownBy_alloc w4 (.cells (Qm.z 0).c 34) none)) (grown_setRow _ w4.heap.size (Qm.z 0).c) (fun j e => by cases e; exact (KW.out.trans hg4).size))
        have i20 : ¬ (q : Int) + 1 ≤ 12 := by omega
        clear h4 hg4 HC0 HC1 HC2 HC3
        go_wp2_with (refine wpList_store_row rfl 34 (.tmp 11) (.tmp 55) rfl w4.heap.size (Qm.z 0).c rfl rfl 34 (Qm.z 0).c B5.out (by rw [Qm.c_size]; exact query_size) (by first | rw [Qm.c_size, Qm.c_size] | rw [Qm.c_size]) (Qm.c_all _) ?_)
        go_roundw
        case rel => exact ⟨4, rfl, by omega, K4⟩
        case measure => simp [intOf]
    obtain rfl : j = 4 := by omega
    go_wp2_with fail
    refine (HD.out _).mono ?_
    rintro e w2b ⟨rfl, hb⟩
    have K5 := Lib.hid (KW.out.trans (grown_belowX hb none))
    have HT : Hid (limitT K = ⟨#[83, 69, 76, 69, 67, 84, 32, 42, 32, 70, 82, 79, 77, 32, 116, 32, 76, 73, 77, 73, 84, 32]⟩ ++ ⟨(Lib.decDigits K).toArray⟩) := Lib.hid rfl
    have b3 : (⟨(Lib.decDigits K).toArray⟩ : ByteArray).size ≤ 20 := by
      have := digits_len 19 K (by omega)
      show (Lib.decDigits K).toArray.size ≤ 20
      simpa using this
    generalize (⟨(Lib.decDigits K).toArray⟩ : ByteArray) = D at *
    clear hb
    go_wp2_with fail
    refine (HPL.out _ _ K5.out).mono ?_
    intro e w4 h4
    rw [← HT.out] at h4
    have B5 := Lib.hid (heap_alloc_new w4 (.cells (Qm.z 0).c 34))
    by_cases hk : K ≤ 1000
    · obtain ⟨y0, hy0, hl0⟩ := limit_ok K hk
      obtain ⟨hg4, y, hy, rfl, _⟩ := parseIs_ok (by rw [hy0]; rfl) h4
      have hlim : y.limit = (K : Int) := by
        rw [hy0] at hy
        cases hy
        exact hl0
      have K4 := Lib.hid (grown_thenX ((K5.out.trans hg4).trans (World.grownBy_alloc w4 (.cells (Qm.z 0).c 34) none)) (grown_setRow _ w4.heap.size y.c) (fun j e => by cases e; exact (K5.out.trans hg4).size))
      have i20 : ¬ (1000 : Int) < K := by omega
      have L5 := (cell_of_row _ _ 15 _ _ _ (setRow_heap (w4.alloc (.cells (Qm.z 0).c 34)) w4.heap.size (Qm.z 0).c y.c _ _ B5.out)).trans (show y.c[15]? = some (.int .i64 K) by
        rw [← hlim]
        obtain ⟨_, _, _, _, _, ⟨_, _, _, _, _, _, _, _, _, _, _, _⟩, _, _, _, _, _, _, _⟩ := y; rfl)
      have zc : (Qm.z 0).c = #[.slice Option.none 0 0, .bool false, .string ⟨#[]⟩, .int .i64 0, .string ⟨#[]⟩, .int .i64 0, .int .i64 0, .int .i64 0, .string ⟨#[]⟩, .string ⟨#[]⟩, .slice Option.none 0 0, .slice Option.none 0 0, .int .i64 0, .slice Option.none 0 0, .slice Option.none 0 0, .int .i64 0, .int .i64 0] := rfl
      rw [zc] at L5
      clear h4 hg4 hy hy0 hl0 hlim zc
      go_wp2_with (refine wpList_store_row rfl 34 (.tmp 15) (.tmp 92) rfl w4.heap.size y.c rfl rfl 34 (Qm.z 0).c B5.out (by rw [Qm.c_size]; exact query_size) (by first | rw [Qm.c_size, Qm.c_size] | rw [Qm.c_size]) (Qm.c_all _) ?_)
      go_ret
      exact ⟨rfl, K4.out⟩
    · obtain ⟨hg4, rfl⟩ := parseIs_err (limit_bad K (by omega) (by omega)) h4
      have K4 := Lib.hid (grown_thenX ((K5.out.trans hg4).trans (World.grownBy_alloc w4 (.cells (Qm.z 0).c 34) none)) (grown_setRow _ w4.heap.size (Qm.z 0).c) (fun j e => by cases e; exact (K5.out.trans hg4).size))
      have i20 : (1000 : Int) < K := by omega
      clear h4 hg4
      go_wp2_with (refine wpList_store_row rfl 34 (.tmp 15) (.tmp 92) rfl w4.heap.size (Qm.z 0).c rfl rfl 34 (Qm.z 0).c B5.out (by rw [Qm.c_size]; exact query_size) (by first | rw [Qm.c_size, Qm.c_size] | rw [Qm.c_size]) (Qm.c_all _) ?_)
      go_ret
      exact ⟨rfl, K4.out⟩
end Go.Proofs.YtppigamibgefaaaGreatDoor
namespace Go.Proofs.YtppigamibgefaaaGreatDoor
open Go.RowKit
theorem ParseLimits_any (x y : Int) (W : World) (hL : laidMetH Tryz.prog laid10x W) : Calls Tryz.prog 7 #[.int .i64 x, .int .i64 y] W fun e W' => e = .returned (.bool true) ∧ Below W.heap.size W W' := by
  obtain ⟨n, g, m, l, hE⟩ := lxEnv_of hL
  exact (ParseLimits_walk _ n g m l x y W hE).mono fun _ _ ⟨he, hg⟩ => ⟨he, below_grownL hg⟩
end Go.Proofs.YtppigamibgefaaaGreatDoor
namespace Go.Proofs.YtppigamibgefaaaGreatDoor
open Go.ChangeShapes Go.WideShapes Go.ChangeAt Go.RowKit Go.Joins
open Go.ChangeMaps (open_string shut_string)

set_option maxRecDepth 100000 in
theorem parseLimits_lifted (os : Os) (started : os.Started) (H : Type) (enc : TypeId × Value → H) :
    ReturnsInHanded {} Tryz.checked os 7 .any (fun w args => (Rows.parseLimitsSpec.pre enc Tryz.prog Tryz.f7 [] false w args ∧ laidMetH Tryz.prog laid10x w) ∧ sizedMet enc Tryz.prog Tryz.f7 (OpenSpec.ofChange Rows.parseLimitsSpec) false w args)
      (Rows.parseLimitsSpec.post enc Tryz.prog Tryz.f7 false true false false) := by
  refine returnsInHanded_of_change_and (C := Tryz.checked) (X := fun w _ => laidMetH Tryz.prog laid10x w) (fun _ _ _ hh h => h.of_heap hh) own started (by kernel_rfl) Tryz.func7
    (ChangeSpec.witness_shaped (enc := enc) (C := Tryz.checked) (os := os) (X := fun w _ => laidMetH Tryz.prog laid10x w) false (World.doorLaid Tryz.prog 400 os) #[.int .i64 0, .int .i64 0] 8 rfl (World.shaped_of_RefB (by kernel_rfl) (by kernel_rfl)) (by kernel_rfl) (by kernel_rfl) (by kernel_rfl) (door_met10x os _)) ?_
  intro W base args ds gs before hval0 hW _ _ hL _
  have hval : ∀ (j : Nat) t v, Tryz.f7.params[j]? = some t → args[j]? = some v → Value.okWide Tryz.prog W .any base t v := hval0
  have hW' := hW
  obtain ⟨p, q, hA0, hV, rfl, hfz, hnd⟩ := hW
  have hA : DataW.TrodAll enc Tryz.prog W 0 (fun _ => true) true Tryz.f7.params.toList args.toList ds p := hA0
  rw [Tryz.params7] at hA hval
  obtain ⟨v0, v1, d0, d1, p0, p1, rfl, rfl, rfl, h0, h1⟩ := trodAll_two hA
  obtain ⟨rfl, rfl⟩ := trodVars_none hV
  obtain ⟨n0, rfl, rfl, rfl, wn0⟩ := open_int Tryz.underlying3 (hval 0 3 v0 rfl rfl) h0
  obtain ⟨n1, rfl, rfl, rfl, wn1⟩ := open_int Tryz.underlying3 (hval 1 3 v1 rfl rfl) h1
  clear hA0 hval0
  simp only [List.append_nil] at hW'
  refine (ParseLimits_any n0 n1 W hL).mono fun e W' ⟨he, hb⟩ => ?_
  subst he
  exact ⟨_, rfl, _, _, _, [], _, [], hW', trodAll_mk1 (shut_bool Tryz.underlying4 _), trodAll_mk2 (shut_int Tryz.underlying3 wn0) (shut_int Tryz.underlying3 wn1), rfl, hb.frame _, fun h => by cases h⟩

theorem parseLimits_holds : Rows.ParseLimitsSaid :=
  OpenClaim.holds_of_wide 7 Tryz.f7 rfl rfl rfl rfl rfl rfl rfl ⟨rfl, rfl, rfl, rfl, rfl⟩ rfl rfl rfl rfl rfl (by kernel_rfl) Tryz.func7 (by kernel_rfl)
    (of_decide_eq_true (by kernel_rfl)) (by unfold Func.isWrapper; first | (rw [if_pos (by decide +kernel)]; kernel_rfl) | (rw [if_neg (by decide +kernel)]; exact ⟨rfl, rfl⟩))
    (fun os started H enc _ => parseLimits_lifted os started H enc)

theorem parseLimits_card : Rows.ParseLimitsCardSaid :=
  Claim7.holds_tied_plain_at .later [] [.data, .data, .data, .handle, .sentinel, .sentinel, .sentinel, .sentinel, .sentinel, .sentinel] true Rows.parseLimitsCard.stood.harness true
    parseLimits_holds (fun _ h => by cases h) (by kernel_rfl) (fun _ h => by cases h) parseLimits_row_tie rfl ⟨rfl, rfl⟩ (by kernel_rfl) rfl
    (fun f fn hf hfn => by
      obtain rfl : f = 7 := Option.some.inj ((show Tryz.prog.funcNamed "stillroom/stillroomlaw11.ParseLimits" = some 7 by kernel_rfl).symm.trans hf) |>.symm
      obtain rfl : fn = Tryz.f7 := (Option.some.inj (Tryz.func7.symm.trans hfn)).symm
      exact ⟨by kernel_rfl, fun j t ht => by
        rw [Tryz.params7] at ht
        have hm : t ∈ [3, 3] := by simpa using Array.mem_of_getElem? ht
        have hall : ([3, 3].all fun u => !Tryz.prog.wantsStandIn u) = true := by kernel_rfl
        exact (show Tryz.prog.wantsStandIn t = false by simpa using List.all_eq_true.1 hall t hm)⟩)
    (by kernel_rfl)
#print axioms parseLimits_card
end Go.Proofs.YtppigamibgefaaaGreatDoor
