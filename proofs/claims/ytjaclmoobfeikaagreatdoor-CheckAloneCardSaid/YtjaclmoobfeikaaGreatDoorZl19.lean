/- The contracts of lex's named and sign. tree's walk: its next. The contract of lex's first. -/
import Derived.Test.YtjaclmoobfeikaaGreatDoorZl17
import Derived.Test.YtjaclmoobfeikaaGreatDoorZl18
namespace Go.Proofs.YtjaclmoobfeikaaGreatDoor
open Go.RowKit

/-- What letters that stand together are. -/
def namC (s : ByteArray) : Nat × Nat := if wordB s.data.toList then (5, 0) else if nameB s then (1, 0) else (0, 10)
set_option maxHeartbeats 800000 in
theorem named_any (G : Nat) (n g m l : Addr) (s : ByteArray) (w : World) (hE : LxEnv G n g m l w) :
    Calls Tryz.prog 131 #[.string s] w fun e w' => e = .returned (.tuple #[.int .i64 (namC s).1, errV n g m l (namC s).2]) ∧ w.grownBy w' none := by
  have HW := Lib.hid (word_any s w)
  have HN := Lib.hid (name_any s w)
  have cv := hE.sn.var
  clear hE
  unfold namC
  cases h1 : wordB s.data.toList
  · rw [h1] at HW
    cases h2 : nameB s
    · rw [h2] at HN
      clear h1 h2
      go_enter Tryz.func131, Tryz.ntmps131
      go_wp2_with fail
      refine (HW.out).mono ?_
      rintro e w1 ⟨rfl, rfl⟩
      go_wp2_with fail
      refine (HN.out).mono ?_
      rintro e w1 ⟨rfl, rfl⟩
      go_wp2_with fail
      go_quiet (fail)
      go_wp2_with fail
      go_ret2
      exact ⟨rfl, grown_drewX (grown_reflX _ _) _⟩
    · rw [h2] at HN
      clear h1 h2
      go_enter Tryz.func131, Tryz.ntmps131
      go_wp2_with fail
      refine (HW.out).mono ?_
      rintro e w1 ⟨rfl, rfl⟩
      go_wp2_with fail
      refine (HN.out).mono ?_
      rintro e w1 ⟨rfl, rfl⟩
      go_wp2_with fail
      go_ret2
      exact ⟨rfl, grown_reflX _ _⟩
  · rw [h1] at HW
    clear h1
    go_enter Tryz.func131, Tryz.ntmps131
    go_wp2_with fail
    refine (HW.out).mono ?_
    rintro e w1 ⟨rfl, rfl⟩
    go_wp2_with fail
    go_ret2
    exact ⟨rfl, grown_reflX _ _⟩

theorem sign_byte {s : ByteArray} {c : UInt8} {r : List UInt8} (h : s.data.toList = c :: r) : ∃ h0 : 0 < s.size, s[0] = c := by
  obtain ⟨h0, e, _⟩ := shut1 h
  exact ⟨h0, e⟩
/-- What a text's sign comes to. -/
def sigC (s : ByteArray) : Nat := if signN s.data.toList = 0 then 10 else 0
theorem idx_sign (c : UInt8) : decide (Lib.indexByte [61, 60, 62, 42, 44, 40, 41] c < 0) = !([61, 60, 62, 42, 44, 40, 41] : List UInt8).contains c := by
  have : ∀ i : Fin 256, decide (Lib.indexByte [61, 60, 62, 42, 44, 40, 41] (UInt8.ofNat i.val) < 0) = !([61, 60, 62, 42, 44, 40, 41] : List UInt8).contains (UInt8.ofNat i.val) := by decide +kernel
  have h := this ⟨c.toNat, c.toNat_lt⟩
  rwa [UInt8.ofNat_toNat] at h
theorem signIx_any (c : UInt8) (w : World) :
    Calls Tryz.prog 143 #[.string ⟨#[61, 60, 62, 42, 44, 40, 41]⟩, .int .u8 c.toNat] w fun e w' => e = .returned (.int .i64 (Lib.indexByte [61, 60, 62, 42, 44, 40, 41] c)) ∧ w = w' :=
  (Tryz.strings_IndexByte ⟨#[61, 60, 62, 42, 44, 40, 41]⟩ c.toNat w).mono fun _ _ ⟨he, hw⟩ => ⟨by rw [he]; simp, hw.symm⟩
set_option maxHeartbeats 1600000 in
theorem sign_any (G : Nat) (n g m l : Addr) (s : ByteArray) (w : World) (h1 : 1 ≤ s.size) (hE : LxEnv G n g m l w) :
    Calls Tryz.prog 132 #[.string s] w fun e w' => e = .returned (.tuple #[.int .i64 (signN s.data.toList), errV n g m l (sigC s)]) ∧ w.grownBy w' none := by
  have HP0 := Lib.hid (prefix_any s ⟨#[60, 62]⟩)
  have HP1 := Lib.hid (prefix_any s ⟨#[60, 61]⟩)
  have HP2 := Lib.hid (prefix_any s ⟨#[62, 61]⟩)
  rw [show (⟨#[60, 62]⟩ : ByteArray).data.toList = [60, 62] from rfl] at HP0
  rw [show (⟨#[60, 61]⟩ : ByteArray).data.toList = [60, 61] from rfl] at HP1
  rw [show (⟨#[62, 61]⟩ : ByteArray).data.toList = [62, 61] from rfl] at HP2
  have HE := Lib.hid hE
  clear hE
  unfold sigC signN
  generalize q0 : Lib.hasPrefix s.data.toList [60, 62] = p0 at *
  generalize q1 : Lib.hasPrefix s.data.toList [60, 61] = p1 at *
  generalize q2 : Lib.hasPrefix s.data.toList [62, 61] = p2 at *
  clear q0 q1 q2
  cases hs : s.data.toList with
  | nil => have h9 := size_list hs; rw [List.length_nil] at h9; omega
  | cons c r =>
  obtain ⟨h0, ec⟩ := sign_byte hs
  have i0 : (0 : Int) < s.size := by omega
  have ecn : s[0].toNat = c.toNat := by rw [ec]
  have HI := Lib.hid (signIx_any c)
  have hx := idx_sign c
  generalize Lib.indexByte [61, 60, 62, 42, 44, 40, 41] c = ix at *
  clear hs ec
  cases p0
  · cases p1
    · cases p2
      · simp only [Bool.or_self, Bool.false_eq_true, if_false]
        cases hc : ([61, 60, 62, 42, 44, 40, 41] : List UInt8).contains c
        · rw [hc] at hx
          have hx' : ix < 0 := by simpa using hx
          clear hx hc
          simp only [Bool.false_eq_true, if_false, if_true]
          go_enter Tryz.func132, Tryz.ntmps132
          go_wp2_with fail
          refine wp_loop_rounds 4 ?_
          rw [rounds_succ]
          go_wp2_with fail
          refine (HP0.out _).mono ?_
          rintro e w1 ⟨rfl, rfl⟩
          go_wp2_with fail
          rw [rounds_succ]
          go_wp2_with fail
          refine (HP1.out _).mono ?_
          rintro e w1 ⟨rfl, rfl⟩
          go_wp2_with fail
          rw [rounds_succ]
          go_wp2_with fail
          refine (HP2.out _).mono ?_
          rintro e w1 ⟨rfl, rfl⟩
          go_wp2_with fail
          rw [rounds_succ]
          go_wp2_with fail
          refine (HI.out _).mono ?_
          rintro e w1 ⟨rfl, rfl⟩
          have K1 := Lib.hid (World.grownBy_alloc w (.cells #[.string ⟨#[60, 62]⟩, .string ⟨#[60, 61]⟩, .string ⟨#[62, 61]⟩] 9) none)
          have cv := (HE.out.keep K1.out).sn.var
          go_wp2_with fail
          go_quiet (fail)
          go_wp2_with fail
          go_ret2
          exact ⟨rfl, grown_drewX K1.out _⟩
        · rw [hc] at hx
          have hx' : 0 ≤ ix := by simpa using hx
          clear hx hc
          simp only [if_true, Nat.one_ne_zero, if_false]
          go_enter Tryz.func132, Tryz.ntmps132
          go_wp2_with fail
          refine wp_loop_rounds 4 ?_
          rw [rounds_succ]
          go_wp2_with fail
          refine (HP0.out _).mono ?_
          rintro e w1 ⟨rfl, rfl⟩
          go_wp2_with fail
          rw [rounds_succ]
          go_wp2_with fail
          refine (HP1.out _).mono ?_
          rintro e w1 ⟨rfl, rfl⟩
          go_wp2_with fail
          rw [rounds_succ]
          go_wp2_with fail
          refine (HP2.out _).mono ?_
          rintro e w1 ⟨rfl, rfl⟩
          go_wp2_with fail
          rw [rounds_succ]
          go_wp2_with fail
          refine (HI.out _).mono ?_
          rintro e w1 ⟨rfl, rfl⟩
          go_wp2_with fail
          go_ret2
          exact ⟨rfl, World.grownBy_alloc _ _ _⟩
      · clear hx
        simp only [Bool.or_true, if_true, Nat.succ_ne_zero, if_false]
        go_enter Tryz.func132, Tryz.ntmps132
        go_wp2_with fail
        refine wp_loop_rounds 3 ?_
        rw [rounds_succ]
        go_wp2_with fail
        refine (HP0.out _).mono ?_
        rintro e w1 ⟨rfl, rfl⟩
        go_wp2_with fail
        rw [rounds_succ]
        go_wp2_with fail
        refine (HP1.out _).mono ?_
        rintro e w1 ⟨rfl, rfl⟩
        go_wp2_with fail
        rw [rounds_succ]
        go_wp2_with fail
        refine (HP2.out _).mono ?_
        rintro e w1 ⟨rfl, rfl⟩
        go_wp2_with fail
        go_ret2
        exact ⟨rfl, World.grownBy_alloc _ _ _⟩
    · clear hx
      simp only [Bool.or_true, Bool.true_or, if_true, Nat.succ_ne_zero, if_false]
      go_enter Tryz.func132, Tryz.ntmps132
      go_wp2_with fail
      refine wp_loop_rounds 2 ?_
      rw [rounds_succ]
      go_wp2_with fail
      refine (HP0.out _).mono ?_
      rintro e w1 ⟨rfl, rfl⟩
      go_wp2_with fail
      rw [rounds_succ]
      go_wp2_with fail
      refine (HP1.out _).mono ?_
      rintro e w1 ⟨rfl, rfl⟩
      go_wp2_with fail
      go_ret2
      exact ⟨rfl, World.grownBy_alloc _ _ _⟩
  · clear hx
    simp only [Bool.true_or, if_true, Nat.succ_ne_zero, if_false]
    go_enter Tryz.func132, Tryz.ntmps132
    go_wp2_with fail
    refine wp_loop_rounds 1 ?_
    rw [rounds_succ]
    go_wp2_with fail
    refine (HP0.out _).mono ?_
    rintro e w1 ⟨rfl, rfl⟩
    go_wp2_with fail
    go_ret2
    exact ⟨rfl, World.grownBy_alloc _ _ _⟩
end Go.Proofs.YtjaclmoobfeikaaGreatDoor
namespace Go.Proofs.YtjaclmoobfeikaaGreatDoor
open Go.RowKit

end Go.Proofs.YtjaclmoobfeikaaGreatDoor
namespace Go.Proofs.YtjaclmoobfeikaaGreatDoor
open Go.RowKit

theorem extract_front (s : ByteArray) (n : Nat) : (s.extract 0 n).data.toList = s.data.toList.take n := by
  simp
theorem size_ex (s : ByteArray) (n : Nat) (h : n ≤ s.size) : (s.extract 0 n).size = n := by
  rw [ByteArray.size_extract]; omega
/-- What first answers. -/
def FirstIs (n g m l : Addr) (t : Nat × Nat × Nat) (w : World) (e : Ending) (w' : World) : Prop := e = .returned (.tuple #[.int .i64 t.1, .int .i64 t.2.1, errV n g m l t.2.2]) ∧ w.grownBy w' none
theorem tok_front (s : ByteArray) (N : Nat) (hN : N ≤ s.size) (hs : s.size ≤ 1510) (G : Nat) (n g m l : Addr) (w : World) (hE : LxEnv G n g m l w) :
    Calls Tryz.prog 128 #[.string (s.extract 0 N)] w fun e w' => e = .returned (errV n g m l (litC (s.data.toList.take N))) ∧ w.grownBy w' none := by
  have := literal_any G n g m l (s.extract 0 N) w (by rw [size_ex s N hN]; omega) hE
  rw [extract_front] at this
  exact this
set_option maxHeartbeats 3200000 in
theorem first_any (G : Nat) (n g m l : Addr) (s : ByteArray) (w : World) (h1 : 1 ≤ s.size) (hs : s.size ≤ 1510) (hE : LxEnv G n g m l w) :
    Calls Tryz.prog 116 #[.string s] w (FirstIs n g m l (tokL s.data.toList) w) := by
  have HE := Lib.hid hE
  have HL : Hid (∀ N, N ≤ s.size → ∀ W, w.grownBy W none → Calls Tryz.prog 128 #[.string (s.extract 0 N)] W fun e w' => e = .returned (errV n g m l (litC (s.data.toList.take N))) ∧ W.grownBy w' none) := Lib.hid fun N hN W hW => tok_front s N hN hs G n g m l W (hE.keep hW)
  have HSg := Lib.hid (sign_any G n g m l s w h1 hE)
  have HQ := Lib.hid (quoted_any s w h1 hs)
  have HR1 := Lib.hid (run_part (s.extract 1 s.size) w (by rw [ByteArray.size_extract]; omega))
  have HR := Lib.hid (run_part s w hs)
  have HN : Hid (∀ N, Calls Tryz.prog 131 #[.string (s.extract 0 N)] w fun e w' => e = .returned (.tuple #[.int .i64 (namC (s.extract 0 N)).1, errV n g m l (namC (s.extract 0 N)).2]) ∧ w.grownBy w' none) := Lib.hid fun N => named_any G n g m l (s.extract 0 N) w hE
  rw [extract_to] at HR1
  clear hE
  cases hl : s.data.toList with
  | nil => have h9 := size_list hl; rw [List.length_nil] at h9; omega
  | cons c r =>
  obtain ⟨h0, ec⟩ := sign_byte hl
  have hlen := size_list hl
  rw [List.length_cons] at hlen
  have i0 : (0 : Int) < s.size := by omega
  have i1 : (1 : Int) ≤ s.size := by omega
  have ecn : s[0].toNat = c.toNat := by rw [ec]
  have HD := Lib.hid (lexDigit_any c.toNat c rfl w)
  have HPt := Lib.hid (part_any c.toNat c rfl w)
  rw [hl] at HL HSg HQ HR1 HR
  rw [List.drop_succ_cons, List.drop_zero] at HQ HR1
  have hq := qN_le r
  have hr1 := runL_le partB r
  have hr2 := runL_le partB (c :: r)
  rw [List.length_cons] at hr2
  have Hlen := Lib.hid hlen
  have Hl := Lib.hid hl
  unfold tokL
  simp only
  clear hl ec
  by_cases q39 : c.toNat = 39
  · rw [if_pos q39]
    have t39 : ((c.toNat : Int) == 39) = true := beq_iff_eq.2 (by omega)
    obtain ⟨N, hN⟩ : ∃ N, N = 1 + qN r := ⟨_, rfl⟩
    have HL1 := Lib.hid (HL.out N (by omega))
    rw [← hN] at HQ ⊢
    have j0 : (0 : Int) ≤ N := by omega
    have j1 : (N : Int) ≤ s.size := by omega
    clear hN hq hr1 hr2 hlen q39
    generalize litC ((c :: r).take N) = lc at *
    go_enter Tryz.func116, Tryz.ntmps116
    go_wp2_with fail
    refine (HQ.out).mono ?_
    rintro e w1 ⟨rfl, rfl⟩
    go_wp2_with fail
    refine (HL1.out _ (grown_reflX _ _)).mono ?_
    rintro e w1 ⟨rfl, hg⟩
    have K1 := Lib.hid hg
    clear hg
    go_wp2_with fail
    go_ret3
    exact ⟨rfl, K1.out⟩
  rw [if_neg q39]
  have t39 : ((c.toNat : Int) == 39) = false := beq_eq_false_iff_ne.2 (by omega)
  by_cases q45 : c.toNat = 45
  · rw [if_pos q45]
    have t45 : ((c.toNat : Int) == 45) = true := beq_iff_eq.2 (by omega)
    obtain ⟨N, hN⟩ : ∃ N, N = 1 + runL partB r := ⟨_, rfl⟩
    have HL1 := Lib.hid (HL.out N (by omega))
    rw [← hN] at ⊢
    have j0 : (0 : Int) ≤ N := by omega
    have j1 : (N : Int) ≤ s.size := by omega
    generalize runL partB r = k at *
    have k0 : (0 : Int) ≤ k := by omega
    have k1 : (k : Int) ≤ 1510 := by omega
    have hw : (1 : Int) + (k : Int) = (N : Int) := by omega
    clear hN hq hr1 hr2 hlen q39 q45
    generalize litC ((c :: r).take N) = lc at *
    go_enter Tryz.func116, Tryz.ntmps116
    go_wp2_with fail
    refine (HR1.out).mono ?_
    rintro e w1 ⟨rfl, rfl⟩
    go_wp2_with fail
    refine (HL1.out _ (grown_reflX _ _)).mono ?_
    rintro e w1 ⟨rfl, hg⟩
    have K1 := Lib.hid hg
    clear hg
    go_wp2_with fail
    go_ret3
    exact ⟨rfl, K1.out⟩
  rw [if_neg q45]
  have t45 : ((c.toNat : Int) == 45) = false := beq_eq_false_iff_ne.2 (by omega)
  clear q39 q45
  generalize hN : runL partB (c :: r) = N at *
  have j0 : (0 : Int) ≤ N := by omega
  have j1 : (N : Int) ≤ s.size := by omega
  cases hd : digB c
  · rw [hd] at HD
    simp only [Bool.false_eq_true, if_false]
    cases hp : partB c
    · rw [hp] at HPt
      simp only [Bool.false_eq_true, if_false]
      have HSc : Hid (FirstIs n g m l (if signN (c :: r) = 0 then (4, 0, 10) else (4, signN (c :: r), 0)) w = FirstIs n g m l (4, signN (c :: r), sigC s) w) := Lib.hid (by
        unfold sigC
        rw [Hl.out]
        split
        · rename_i h; rw [h]
        · rfl)
      rw [HSc.out]
      clear hd hp hN hq hr1 hr2 hlen
      generalize signN (c :: r) = sg at *
      generalize sigC s = sc at *
      go_enter Tryz.func116, Tryz.ntmps116
      go_wp2_with fail
      refine (HD.out).mono ?_
      rintro e w1 ⟨rfl, rfl⟩
      go_wp2_with fail
      refine (HPt.out).mono ?_
      rintro e w1 ⟨rfl, rfl⟩
      go_wp2_with fail
      refine (HSg.out).mono ?_
      rintro e w1 ⟨rfl, hg⟩
      have K1 := Lib.hid hg
      clear hg
      go_wp2_with fail
      go_ret3
      exact ⟨rfl, K1.out⟩
    · rw [hp] at HPt
      simp only [if_true]
      have HSc : Hid (FirstIs n g m l (if wordB ((c :: r).take N) then (5, N, 0) else if nameL ((c :: r).take N) then (1, N, 0) else (0, N, 10)) w = FirstIs n g m l ((namC (s.extract 0 N)).1, N, (namC (s.extract 0 N)).2) w) := Lib.hid (by
        unfold namC
        rw [extract_front, Hl.out, show nameB (s.extract 0 N) = nameL ((c :: r).take N) from by unfold nameL; rw [← Hl.out, ← extract_front]]
        split
        · rfl
        · split <;> rfl)
      rw [HSc.out]
      have HN1 := Lib.hid (HN.out N)
      clear hd hp hN hq hr1 hr2 hlen
      generalize (namC (s.extract 0 N)).1 = na at *
      generalize (namC (s.extract 0 N)).2 = nb at *
      go_enter Tryz.func116, Tryz.ntmps116
      go_wp2_with fail
      refine (HD.out).mono ?_
      rintro e w1 ⟨rfl, rfl⟩
      go_wp2_with fail
      refine (HPt.out).mono ?_
      rintro e w1 ⟨rfl, rfl⟩
      go_wp2_with fail
      refine (HR.out).mono ?_
      rintro e w1 ⟨rfl, rfl⟩
      go_wp2_with fail
      refine (HN1.out).mono ?_
      rintro e w1 ⟨rfl, hg⟩
      have K1 := Lib.hid hg
      clear hg
      go_wp2_with fail
      go_ret3
      exact ⟨rfl, K1.out⟩
  · rw [hd] at HD
    simp only [if_true]
    have HL1 := Lib.hid (HL.out N (by omega))
    clear hd hN hq hr1 hr2 hlen
    generalize litC ((c :: r).take N) = lc at *
    go_enter Tryz.func116, Tryz.ntmps116
    go_wp2_with fail
    refine (HD.out).mono ?_
    rintro e w1 ⟨rfl, rfl⟩
    go_wp2_with fail
    refine (HR.out).mono ?_
    rintro e w1 ⟨rfl, rfl⟩
    go_wp2_with fail
    refine (HL1.out _ (grown_reflX _ _)).mono ?_
    rintro e w1 ⟨rfl, hg⟩
    have K1 := Lib.hid hg
    clear hg
    go_wp2_with fail
    go_ret3
    exact ⟨rfl, K1.out⟩
end Go.Proofs.YtjaclmoobfeikaaGreatDoor
