/- The contracts of lex's named and sign. -/
import Derived.Test.YtiahojbliaaklaaGreatDoorLxW
namespace Go.Proofs.YtiahojbliaaklaaGreatDoor
open Go.RowKit

/-- What letters that stand together are. -/
def namC (s : ByteArray) : Nat × Nat := if wordB s.data.toList then (5, 0) else if nameB s then (1, 0) else (0, 10)
set_option maxHeartbeats 800000 in
theorem named_any (G : Nat) (n g m l : Addr) (s : ByteArray) (w : World) (hE : LxEnv G n g m l w) :
    Calls Tryz.prog 38 #[.string s] w fun e w' => e = .returned (.tuple #[.int .i64 (namC s).1, errV n g m l (namC s).2]) ∧ w.grownBy w' none := by
  have HW := Lib.hid (word_any s w)
  have HN := Lib.hid (name_any s w)
  have cv := hE.sn.var
  clear hE
  unfold namC
  cases h1 : wordB s.data.toList
  · rw [h1] at HW
    cases h2 : nameB s
    · rw [h2] at HN
      clear h1 h2
      go_enter Tryz.func38, Tryz.ntmps38
      go_wp2_with fail
      refine (HW.out).mono ?_
      rintro e w1 ⟨rfl, rfl⟩
      go_wp2_with fail
      refine (HN.out).mono ?_
      rintro e w1 ⟨rfl, rfl⟩
      go_wp2_with fail
      go_quiet (fail)
      go_wp2_with fail
      go_ret2
      exact ⟨rfl, grown_drewX (grown_reflX _ _) _⟩
    · rw [h2] at HN
      clear h1 h2
      go_enter Tryz.func38, Tryz.ntmps38
      go_wp2_with fail
      refine (HW.out).mono ?_
      rintro e w1 ⟨rfl, rfl⟩
      go_wp2_with fail
      refine (HN.out).mono ?_
      rintro e w1 ⟨rfl, rfl⟩
      go_wp2_with fail
      go_ret2
      exact ⟨rfl, grown_reflX _ _⟩
  · rw [h1] at HW
    clear h1
    go_enter Tryz.func38, Tryz.ntmps38
    go_wp2_with fail
    refine (HW.out).mono ?_
    rintro e w1 ⟨rfl, rfl⟩
    go_wp2_with fail
    go_ret2
    exact ⟨rfl, grown_reflX _ _⟩

theorem sign_byte {s : ByteArray} {c : UInt8} {r : List UInt8} (h : s.data.toList = c :: r) : ∃ h0 : 0 < s.size, s[0] = c := by
  obtain ⟨h0, e, _⟩ := shut1 h
  exact ⟨h0, e⟩
/-- What a text's sign comes to. -/
def sigC (s : ByteArray) : Nat := if signN s.data.toList = 0 then 10 else 0
theorem idx_sign (c : UInt8) : decide (Lib.indexByte [61, 60, 62, 42, 44, 40, 41] c < 0) = !([61, 60, 62, 42, 44, 40, 41] : List UInt8).contains c := by
  have : ∀ i : Fin 256, decide (Lib.indexByte [61, 60, 62, 42, 44, 40, 41] (UInt8.ofNat i.val) < 0) = !([61, 60, 62, 42, 44, 40, 41] : List UInt8).contains (UInt8.ofNat i.val) := by decide +kernel
  have h := this ⟨c.toNat, c.toNat_lt⟩
  rwa [UInt8.ofNat_toNat] at h
theorem signIx_any (c : UInt8) (w : World) :
    Calls Tryz.prog 44 #[.string ⟨#[61, 60, 62, 42, 44, 40, 41]⟩, .int .u8 c.toNat] w fun e w' => e = .returned (.int .i64 (Lib.indexByte [61, 60, 62, 42, 44, 40, 41] c)) ∧ w = w' :=
  (Tryz.strings_IndexByte ⟨#[61, 60, 62, 42, 44, 40, 41]⟩ c.toNat w).mono fun _ _ ⟨he, hw⟩ => ⟨by rw [he]; simp, hw.symm⟩
set_option maxHeartbeats 1600000 in
theorem sign_any (G : Nat) (n g m l : Addr) (s : ByteArray) (w : World) (h1 : 1 ≤ s.size) (hE : LxEnv G n g m l w) :
    Calls Tryz.prog 39 #[.string s] w fun e w' => e = .returned (.tuple #[.int .i64 (signN s.data.toList), errV n g m l (sigC s)]) ∧ w.grownBy w' none := by
  have HP0 := Lib.hid (prefix_any s ⟨#[60, 62]⟩)
  have HP1 := Lib.hid (prefix_any s ⟨#[60, 61]⟩)
  have HP2 := Lib.hid (prefix_any s ⟨#[62, 61]⟩)
  rw [show (⟨#[60, 62]⟩ : ByteArray).data.toList = [60, 62] from rfl] at HP0
  rw [show (⟨#[60, 61]⟩ : ByteArray).data.toList = [60, 61] from rfl] at HP1
  rw [show (⟨#[62, 61]⟩ : ByteArray).data.toList = [62, 61] from rfl] at HP2
  have HE := Lib.hid hE
  clear hE
  unfold sigC signN
  generalize q0 : Lib.hasPrefix s.data.toList [60, 62] = p0 at *
  generalize q1 : Lib.hasPrefix s.data.toList [60, 61] = p1 at *
  generalize q2 : Lib.hasPrefix s.data.toList [62, 61] = p2 at *
  clear q0 q1 q2
  cases hs : s.data.toList with
  | nil => have h9 := size_list hs; rw [List.length_nil] at h9; omega
  | cons c r =>
  obtain ⟨h0, ec⟩ := sign_byte hs
  have i0 : (0 : Int) < s.size := by omega
  have ecn : s[0].toNat = c.toNat := by rw [ec]
  have HI := Lib.hid (signIx_any c)
  have hx := idx_sign c
  generalize Lib.indexByte [61, 60, 62, 42, 44, 40, 41] c = ix at *
  clear hs ec
  cases p0
  · cases p1
    · cases p2
      · simp only [Bool.or_self, Bool.false_eq_true, if_false]
        cases hc : ([61, 60, 62, 42, 44, 40, 41] : List UInt8).contains c
        · rw [hc] at hx
          have hx' : ix < 0 := by simpa using hx
          clear hx hc
          simp only [Bool.false_eq_true, if_false, if_true]
          go_enter Tryz.func39, Tryz.ntmps39
          go_wp2_with fail
          refine wp_loop_rounds 4 ?_
          rw [rounds_succ]
          go_wp2_with fail
          refine (HP0.out _).mono ?_
          rintro e w1 ⟨rfl, rfl⟩
          go_wp2_with fail
          rw [rounds_succ]
          go_wp2_with fail
          refine (HP1.out _).mono ?_
          rintro e w1 ⟨rfl, rfl⟩
          go_wp2_with fail
          rw [rounds_succ]
          go_wp2_with fail
          refine (HP2.out _).mono ?_
          rintro e w1 ⟨rfl, rfl⟩
          go_wp2_with fail
          rw [rounds_succ]
          go_wp2_with fail
          refine (HI.out _).mono ?_
          rintro e w1 ⟨rfl, rfl⟩
          have K1 := Lib.hid (World.grownBy_alloc w (.cells #[.string ⟨#[60, 62]⟩, .string ⟨#[60, 61]⟩, .string ⟨#[62, 61]⟩] 9) none)
          have cv := (HE.out.keep K1.out).sn.var
          go_wp2_with fail
          go_quiet (fail)
          go_wp2_with fail
          go_ret2
          exact ⟨rfl, grown_drewX K1.out _⟩
        · rw [hc] at hx
          have hx' : 0 ≤ ix := by simpa using hx
          clear hx hc
          simp only [if_true, Nat.one_ne_zero, if_false]
          go_enter Tryz.func39, Tryz.ntmps39
          go_wp2_with fail
          refine wp_loop_rounds 4 ?_
          rw [rounds_succ]
          go_wp2_with fail
          refine (HP0.out _).mono ?_
          rintro e w1 ⟨rfl, rfl⟩
          go_wp2_with fail
          rw [rounds_succ]
          go_wp2_with fail
          refine (HP1.out _).mono ?_
          rintro e w1 ⟨rfl, rfl⟩
          go_wp2_with fail
          rw [rounds_succ]
          go_wp2_with fail
          refine (HP2.out _).mono ?_
          rintro e w1 ⟨rfl, rfl⟩
          go_wp2_with fail
          rw [rounds_succ]
          go_wp2_with fail
          refine (HI.out _).mono ?_
          rintro e w1 ⟨rfl, rfl⟩
          go_wp2_with fail
          go_ret2
          exact ⟨rfl, World.grownBy_alloc _ _ _⟩
      · clear hx
        simp only [Bool.or_true, if_true, Nat.succ_ne_zero, if_false]
        go_enter Tryz.func39, Tryz.ntmps39
        go_wp2_with fail
        refine wp_loop_rounds 3 ?_
        rw [rounds_succ]
        go_wp2_with fail
        refine (HP0.out _).mono ?_
        rintro e w1 ⟨rfl, rfl⟩
        go_wp2_with fail
        rw [rounds_succ]
        go_wp2_with fail
        refine (HP1.out _).mono ?_
        rintro e w1 ⟨rfl, rfl⟩
        go_wp2_with fail
        rw [rounds_succ]
        go_wp2_with fail
        refine (HP2.out _).mono ?_
        rintro e w1 ⟨rfl, rfl⟩
        go_wp2_with fail
        go_ret2
        exact ⟨rfl, World.grownBy_alloc _ _ _⟩
    · clear hx
      simp only [Bool.or_true, Bool.true_or, if_true, Nat.succ_ne_zero, if_false]
      go_enter Tryz.func39, Tryz.ntmps39
      go_wp2_with fail
      refine wp_loop_rounds 2 ?_
      rw [rounds_succ]
      go_wp2_with fail
      refine (HP0.out _).mono ?_
      rintro e w1 ⟨rfl, rfl⟩
      go_wp2_with fail
      rw [rounds_succ]
      go_wp2_with fail
      refine (HP1.out _).mono ?_
      rintro e w1 ⟨rfl, rfl⟩
      go_wp2_with fail
      go_ret2
      exact ⟨rfl, World.grownBy_alloc _ _ _⟩
  · clear hx
    simp only [Bool.true_or, if_true, Nat.succ_ne_zero, if_false]
    go_enter Tryz.func39, Tryz.ntmps39
    go_wp2_with fail
    refine wp_loop_rounds 1 ?_
    rw [rounds_succ]
    go_wp2_with fail
    refine (HP0.out _).mono ?_
    rintro e w1 ⟨rfl, rfl⟩
    go_wp2_with fail
    go_ret2
    exact ⟨rfl, World.grownBy_alloc _ _ _⟩
end Go.Proofs.YtiahojbliaaklaaGreatDoor
