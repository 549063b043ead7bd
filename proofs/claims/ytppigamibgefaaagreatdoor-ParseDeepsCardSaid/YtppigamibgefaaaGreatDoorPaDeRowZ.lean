/- Brackets and NOTs, so many of them: where the texts fail, by evaluation. The law ParseDeeps, walked: true at any number, brackets or NOTs. The law ParseDeeps, in the row's words. PROVED: the card of ParseDeeps: at every input, in whatever memory that meets the row's listed variables (which the card ties to the program's text), the call returns true and its arguments read as they did. No condition of our own. -/
import Derived.Test.YtppigamibgefaaaGreatDoorZp11
import Derived.Lib.Repeat
import Derived.Test.YtppigamibgefaaaGreatDoorZp30
import Derived.Test.YtppigamibgefaaaGreatDoorZp16
import Derived.Test.YtppigamibgefaaaGreatDoorCards
import Derived.Test.YtppigamibgefaaaGreatDoorTie
import Derived.SevenTiedAt
namespace Go.Proofs.YtppigamibgefaaaGreatDoor
open Go.RowKit

/-- Where a text fails: the place, the number. -/
def codeOf : Except (Nat × Nat) Qry → Option (Nat × Nat)
  | .error e => some e
  | .ok _ => none
def deepT (b : Bool) (k : Nat) : ByteArray := ⟨#[83, 69, 76, 69, 67, 84, 32, 42, 32, 70, 82, 79, 77, 32, 116, 32, 87, 72, 69, 82, 69, 32]⟩ ++ ⟨(Lib.repeatL (if b then [40, 32] else [78, 79, 84, 32]) k).toArray⟩ ++ ⟨#[84, 82, 85, 69]⟩ ++ ⟨(Lib.repeatL (if b then [41] else []) k).toArray⟩
theorem deep_code : ∀ b : Bool, ∀ k, k < 30 → codeOf (parseL (deepT b k)) = if k < 20 then none else some (if b then 62 else 102, 12) := by decide +kernel
end Go.Proofs.YtppigamibgefaaaGreatDoor
namespace Go.Proofs.YtppigamibgefaaaGreatDoor
open Go.RowKit

theorem reachP (x : Int) (M : Nat) (h0 : 0 < M) (h1 : M < 2000) : ∃ N : Nat, N < M ∧ wrap64 ((IntKind.u64.wrap x).tmod M) = (N : Int) := by
  have hw : 0 ≤ IntKind.u64.wrap x := by rw [IntKind.wrap_u64]; omega
  rw [Int.tmod_eq_emod_of_nonneg hw]
  have a := Int.emod_nonneg (IntKind.u64.wrap x) (show (M : Int) ≠ 0 by omega)
  have b := Int.emod_lt_of_pos (IntKind.u64.wrap x) (show (0 : Int) < M by omega)
  generalize IntKind.u64.wrap x % (M : Int) = z at *
  refine ⟨z.toNat, by omega, ?_⟩
  rw [IntWalk.wrap64_in z ⟨by omega, by omega⟩]
  omega
/-- What Parse answers where that is known. -/
theorem parseIs_ok {s : ByteArray} {w w' : World} {e : Ending} (hc : codeOf (parseL s) = none) (h : ParseIs s w e w') : w.grownBy w' none ∧ ∃ y : Qm, parseL s = .ok y.e ∧ e = .returned (.tuple #[.agg y.c, .int .i64 0, .int .i64 0]) ∧ QmS (fun j => w.heap.size ≤ j) w' y := by
  refine ⟨h.1, ?_⟩
  rcases h.2 with ⟨p, k, h1, h2⟩ | h
  · rw [h1] at hc; cases hc
  · exact h
theorem parseIs_err {s : ByteArray} {w w' : World} {e : Ending} {p k : Nat} (hc : codeOf (parseL s) = some (p, k)) (h : ParseIs s w e w') : w.grownBy w' none ∧ e = .returned (.tuple #[.agg (Qm.z 0).c, .int .i64 p, .int .i64 k]) := by
  refine ⟨h.1, ?_⟩
  rcases h.2 with ⟨p, k, h1, h2⟩ | ⟨y, h1, _⟩
  · rw [h1] at hc; cases hc; exact h2
  · rw [h1] at hc; cases hc
theorem rep_small (l : List UInt8) (k : Nat) (hl : l.length ≤ 4) (hk : k < 30) : (⟨(Lib.repeatL l k).toArray⟩ : ByteArray).size ≤ 120 := by
  show (Lib.repeatL l k).toArray.size ≤ 120
  rw [List.size_toArray, Lib.repeatL_length]
  have := Nat.mul_le_mul (show k ≤ 30 by omega) hl
  omega
set_option maxRecDepth 100000 in
set_option maxHeartbeats 3200000 in
theorem ParseDeeps_walk (G : Nat) (n g m l : Addr) (x : Int) (br : Bool) (w : World) (hE : LxEnv G n g m l w) :
    Calls Tryz.prog 6 #[.int .i64 x, .bool br] w fun e w' => e = .returned (.bool true) ∧ w.grownBy w' none := by
  have HA := Lib.hid (fun W (hW : w.grownBy W none) => awake11_any G n g m l W (hE.keep hW))
  obtain ⟨k, hk, hx⟩ : ∃ N : Nat, N < 30 ∧ wrap64 ((IntKind.u64.wrap x).tmod (30 : Int)) = (N : Int) := reachP x 30 (by omega) (by omega)
  have HP := Lib.hid (fun W (hW : w.grownBy W none) => parse_any G n g m l (deepT br k) W (hE.keep hW))
  have HC := Lib.hid (deep_code br k hk)
  have HR := Lib.hid (fun (s : ByteArray) (hs : s.size ≤ 4) W => Tryz.strings_Repeat s k W (by omega) (by have := Nat.mul_le_mul hs (show k ≤ 30 by omega); omega))
  have HX := Lib.hid hx
  clear hE hx
  have k0 : (0 : Int) ≤ k := by omega
  have k1 : (k : Int) < 30 := by omega
  go_enter Tryz.func6, Tryz.ntmps6
  go_wp2_with fail
  refine (HA.out _ (grown_reflX _ _)).mono ?_
  rintro e w1 ⟨rfl, hg⟩
  have K1 := Lib.hid hg
  clear hg
  go_upto_region 3 with (fail)
  go_cut [5] (fun a wx => a = .int .i64 k ∧ w1 = wx)
  case first =>
    go_wp2_with fail
    go_meet
    exact ⟨by rw [← HX.out], rfl⟩
  case rest =>
  obtain ⟨rfl, rfl⟩ := hcut
  cases br with
  | true =>
    have HR1 := Lib.hid (fun W => HR.out ⟨#[40, 32]⟩ (by decide) W)
    have HR2 := Lib.hid (fun W => HR.out ⟨#[41]⟩ (by decide) W)
    have e1 : (⟨#[40, 32]⟩ : ByteArray).data.toList = [40, 32] := rfl
    have e2 : (⟨#[41]⟩ : ByteArray).data.toList = [41] := rfl
    rw [e1] at HR1
    rw [e2] at HR2
    clear e1 e2 HR
    unfold deepT at HP HC
    simp only [if_true] at HP HC
    have b1 := rep_small [40, 32] k (by decide) hk
    have b2 := rep_small [41] k (by decide) hk
    generalize (⟨(Lib.repeatL [40, 32] k).toArray⟩ : ByteArray) = R1 at *
    generalize (⟨(Lib.repeatL [41] k).toArray⟩ : ByteArray) = R2 at *
    go_wp2_with fail
    refine (HR1.out _).mono ?_
    rintro e w2 ⟨rfl, hb⟩
    have K2 := Lib.hid (K1.out.trans (grown_belowX hb none))
    clear hb
    go_wp2_with fail
    refine (HR2.out _).mono ?_
    rintro e w3 ⟨rfl, hb⟩
    have K3 := Lib.hid (K2.out.trans (grown_belowX hb none))
    clear hb
    go_wp2_with fail
    refine (HP.out _ K3.out).mono ?_
    intro e w4 h4
    have B5 := Lib.hid (heap_alloc_new w4 (.cells (Qm.z 0).c 34))
    by_cases h20 : k < 20
    · rw [if_pos h20] at HC
      obtain ⟨hg4, y, _, rfl, _⟩ := parseIs_ok HC.out h4
      have K4 := Lib.hid (grown_thenX ((K3.out.trans hg4).trans (World.grownBy_alloc w4 (.cells (Qm.z 0).c 34) none)) (grown_setRow _ w4.heap.size y.c) (fun j e => by cases e; exact (K3.out.trans hg4).size))
      have i20 : (k : Int) < 20 := by omega
      clear h4 hg4 HC HP
      go_wp2_with (refine wpList_store_row rfl 34 (.tmp 8) (.tmp 29) rfl w4.heap.size y.c rfl rfl 34 (Qm.z 0).c B5.out (by rw [Qm.c_size]; exact query_size) (by rw [Qm.c_size, Qm.c_size]) (Qm.c_all _) ?_)
      go_ret
      exact ⟨rfl, K4.out⟩
    · rw [if_neg h20] at HC
      obtain ⟨hg4, rfl⟩ := parseIs_err HC.out h4
      have K4 := Lib.hid (grown_thenX ((K3.out.trans hg4).trans (World.grownBy_alloc w4 (.cells (Qm.z 0).c 34) none)) (grown_setRow _ w4.heap.size (Qm.z 0).c) (fun j e => by cases e; exact (K3.out.trans hg4).size))
      have i20 : ¬ (k : Int) < 20 := by omega
      clear h4 hg4 HC HP
      go_wp2_with (refine wpList_store_row rfl 34 (.tmp 8) (.tmp 29) rfl w4.heap.size (Qm.z 0).c rfl rfl 34 (Qm.z 0).c B5.out (by rw [Qm.c_size]; exact query_size) (by rw [Qm.c_size]) (Qm.c_all _) ?_)
      go_ret
      exact ⟨rfl, K4.out⟩
  | false =>
    have HR1 := Lib.hid (fun W => HR.out ⟨#[78, 79, 84, 32]⟩ (by decide) W)
    have HR2 := Lib.hid (fun W => HR.out ⟨#[]⟩ (by decide) W)
    have e1 : (⟨#[78, 79, 84, 32]⟩ : ByteArray).data.toList = [78, 79, 84, 32] := rfl
    have e2 : (⟨#[]⟩ : ByteArray).data.toList = [] := rfl
    rw [e1] at HR1
    rw [e2] at HR2
    clear e1 e2 HR
    unfold deepT at HP HC
    simp only [Bool.false_eq_true, if_false] at HP HC
    have b1 := rep_small [78, 79, 84, 32] k (by decide) hk
    have b2 := rep_small [] k (by decide) hk
    generalize (⟨(Lib.repeatL [78, 79, 84, 32] k).toArray⟩ : ByteArray) = R1 at *
    generalize (⟨(Lib.repeatL [] k).toArray⟩ : ByteArray) = R2 at *
    go_wp2_with fail
    refine (HR1.out _).mono ?_
    rintro e w2 ⟨rfl, hb⟩
    have K2 := Lib.hid (K1.out.trans (grown_belowX hb none))
    clear hb
    go_wp2_with fail
    refine (HR2.out _).mono ?_
    rintro e w3 ⟨rfl, hb⟩
    have K3 := Lib.hid (K2.out.trans (grown_belowX hb none))
    clear hb
    go_wp2_with fail
    refine (HP.out _ K3.out).mono ?_
    intro e w4 h4
    have B5 := Lib.hid (heap_alloc_new w4 (.cells (Qm.z 0).c 34))
    by_cases h20 : k < 20
    · rw [if_pos h20] at HC
      obtain ⟨hg4, y, _, rfl, _⟩ := parseIs_ok HC.out h4
      have K4 := Lib.hid (grown_thenX ((K3.out.trans hg4).trans (World.grownBy_alloc w4 (.cells (Qm.z 0).c 34) none)) (grown_setRow _ w4.heap.size y.c) (fun j e => by cases e; exact (K3.out.trans hg4).size))
      have i20 : (k : Int) < 20 := by omega
      clear h4 hg4 HC HP
      go_wp2_with (refine wpList_store_row rfl 34 (.tmp 8) (.tmp 29) rfl w4.heap.size y.c rfl rfl 34 (Qm.z 0).c B5.out (by rw [Qm.c_size]; exact query_size) (by rw [Qm.c_size, Qm.c_size]) (Qm.c_all _) ?_)
      go_ret
      exact ⟨rfl, K4.out⟩
    · rw [if_neg h20] at HC
      obtain ⟨hg4, rfl⟩ := parseIs_err HC.out h4
      have K4 := Lib.hid (grown_thenX ((K3.out.trans hg4).trans (World.grownBy_alloc w4 (.cells (Qm.z 0).c 34) none)) (grown_setRow _ w4.heap.size (Qm.z 0).c) (fun j e => by cases e; exact (K3.out.trans hg4).size))
      have i20 : ¬ (k : Int) < 20 := by omega
      clear h4 hg4 HC HP
      go_wp2_with (refine wpList_store_row rfl 34 (.tmp 8) (.tmp 29) rfl w4.heap.size (Qm.z 0).c rfl rfl 34 (Qm.z 0).c B5.out (by rw [Qm.c_size]; exact query_size) (by rw [Qm.c_size]) (Qm.c_all _) ?_)
      go_ret
      exact ⟨rfl, K4.out⟩
end Go.Proofs.YtppigamibgefaaaGreatDoor
namespace Go.Proofs.YtppigamibgefaaaGreatDoor
open Go.RowKit
theorem ParseDeeps_any (x : Int) (b : Bool) (W : World) (hL : laidMetH Tryz.prog laid10x W) : Calls Tryz.prog 6 #[.int .i64 x, .bool b] W fun e W' => e = .returned (.bool true) ∧ Below W.heap.size W W' := by
  obtain ⟨n, g, m, l, hE⟩ := lxEnv_of hL
  exact (ParseDeeps_walk _ n g m l x b W hE).mono fun _ _ ⟨he, hg⟩ => ⟨he, below_grownL hg⟩
end Go.Proofs.YtppigamibgefaaaGreatDoor
namespace Go.Proofs.YtppigamibgefaaaGreatDoor
open Go.ChangeShapes Go.WideShapes Go.ChangeAt Go.RowKit Go.Joins
open Go.ChangeMaps (open_string shut_string)

set_option maxRecDepth 100000 in
theorem parseDeeps_lifted (os : Os) (started : os.Started) (H : Type) (enc : TypeId × Value → H) :
    ReturnsInHanded {} Tryz.checked os 6 .any (fun w args => (Rows.parseDeepsSpec.pre enc Tryz.prog Tryz.f6 [] false w args ∧ laidMetH Tryz.prog laid10x w) ∧ sizedMet enc Tryz.prog Tryz.f6 (OpenSpec.ofChange Rows.parseDeepsSpec) false w args)
      (Rows.parseDeepsSpec.post enc Tryz.prog Tryz.f6 false true false false) := by
  refine returnsInHanded_of_change_and (C := Tryz.checked) (X := fun w _ => laidMetH Tryz.prog laid10x w) (fun _ _ _ hh h => h.of_heap hh) own started (by kernel_rfl) Tryz.func6
    (ChangeSpec.witness_shaped (enc := enc) (C := Tryz.checked) (os := os) (X := fun w _ => laidMetH Tryz.prog laid10x w) false (World.doorLaid Tryz.prog 400 os) #[.int .i64 0, .bool false] 8 rfl (World.shaped_of_RefB (by kernel_rfl) (by kernel_rfl)) (by kernel_rfl) (by kernel_rfl) (by kernel_rfl) (door_met10x os _)) ?_
  intro W base args ds gs before hval0 hW _ _ hL _
  have hval : ∀ (j : Nat) t v, Tryz.f6.params[j]? = some t → args[j]? = some v → Value.okWide Tryz.prog W .any base t v := hval0
  have hW' := hW
  obtain ⟨p, q, hA0, hV, rfl, hfz, hnd⟩ := hW
  have hA : DataW.TrodAll enc Tryz.prog W 0 (fun _ => true) true Tryz.f6.params.toList args.toList ds p := hA0
  rw [Tryz.params6] at hA hval
  obtain ⟨v0, v1, d0, d1, p0, p1, rfl, rfl, rfl, h0, h1⟩ := trodAll_two hA
  obtain ⟨rfl, rfl⟩ := trodVars_none hV
  obtain ⟨n0, rfl, rfl, rfl, wn0⟩ := open_int Tryz.underlying3 (hval 0 3 v0 rfl rfl) h0
  obtain ⟨f1, rfl, rfl, rfl⟩ := open_bool Tryz.underlying4 (hval 1 4 v1 rfl rfl) h1
  clear hA0 hval0
  simp only [List.append_nil] at hW'
  refine (ParseDeeps_any n0 f1 W hL).mono fun e W' ⟨he, hb⟩ => ?_
  subst he
  exact ⟨_, rfl, _, _, _, [], _, [], hW', trodAll_mk1 (shut_bool Tryz.underlying4 _), trodAll_mk2 (shut_int Tryz.underlying3 wn0) (shut_bool Tryz.underlying4 _), rfl, hb.frame _, fun h => by cases h⟩

theorem parseDeeps_holds : Rows.ParseDeepsSaid :=
  OpenClaim.holds_of_wide 6 Tryz.f6 rfl rfl rfl rfl rfl rfl rfl ⟨rfl, rfl, rfl, rfl, rfl⟩ rfl rfl rfl rfl rfl (by kernel_rfl) Tryz.func6 (by kernel_rfl)
    (of_decide_eq_true (by kernel_rfl)) (by unfold Func.isWrapper; first | (rw [if_pos (by decide +kernel)]; kernel_rfl) | (rw [if_neg (by decide +kernel)]; exact ⟨rfl, rfl⟩))
    (fun os started H enc _ => parseDeeps_lifted os started H enc)

theorem parseDeeps_card : Rows.ParseDeepsCardSaid :=
  Claim7.holds_tied_plain_at .later [] [.data, .data, .data, .handle, .sentinel, .sentinel, .sentinel, .sentinel, .sentinel, .sentinel] true Rows.parseDeepsCard.stood.harness true
    parseDeeps_holds (fun _ h => by cases h) (by kernel_rfl) (fun _ h => by cases h) parseDeeps_row_tie rfl ⟨rfl, rfl⟩ (by kernel_rfl) rfl
    (fun f fn hf hfn => by
      obtain rfl : f = 6 := Option.some.inj ((show Tryz.prog.funcNamed "stillroom/stillroomlaw11.ParseDeeps" = some 6 by kernel_rfl).symm.trans hf) |>.symm
      obtain rfl : fn = Tryz.f6 := (Option.some.inj (Tryz.func6.symm.trans hfn)).symm
      exact ⟨by kernel_rfl, fun j t ht => by
        rw [Tryz.params6] at ht
        have hm : t ∈ [3, 4] := by simpa using Array.mem_of_getElem? ht
        have hall : ([3, 4].all fun u => !Tryz.prog.wantsStandIn u) = true := by kernel_rfl
        exact (show Tryz.prog.wantsStandIn t = false by simpa using List.all_eq_true.1 hall t hm)⟩)
    (by kernel_rfl)
#print axioms parseDeeps_card
end Go.Proofs.YtppigamibgefaaaGreatDoor
