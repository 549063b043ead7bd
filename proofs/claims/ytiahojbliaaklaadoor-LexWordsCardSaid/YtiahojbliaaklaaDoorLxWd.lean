/- The law LexWords, walked: true at any text. -/
import Derived.Test.YtiahojbliaaklaaDoorLxK
import Derived.Test.YtiahojbliaaklaaDoorLxRw
namespace Go.Proofs.YtiahojbliaaklaaDoor
open Go.RowKit

theorem bytes_extX {s t : ByteArray} (h : s.data.toList = t.data.toList) : s = t := by
  apply ByteArray.ext
  exact Array.toList_inj.1 h
theorem lex_words : ∀ l ∈ words, lexL ⟨l.toArray⟩ = .ok [⟨5, ⟨l.toArray⟩, 0⟩, ⟨0, ⟨#[]⟩, l.length⟩] := by
  intro l hl
  simp only [words, List.mem_cons, List.not_mem_nil, or_false] at hl
  rcases hl with rfl | rfl | rfl | rfl | rfl | rfl | rfl | rfl | rfl | rfl | rfl | rfl | rfl | rfl | rfl | rfl | rfl | rfl | rfl | rfl | rfl | rfl <;> rfl
theorem lex_word (s : ByteArray) (h : wordB s.data.toList = true) : lexL s = .ok [⟨5, s, 0⟩, ⟨0, ⟨#[]⟩, s.size⟩] := by
  have hm : s.data.toList ∈ words := by
    unfold wordB at h
    rw [List.contains_eq_mem, decide_eq_true_iff] at h
    exact h
  have := lex_words _ hm
  have e : (⟨s.data.toList.toArray⟩ : ByteArray) = s := bytes_extX (by simp)
  rw [e] at this
  rw [this, Array.length_toList]
  rfl
set_option maxRecDepth 100000 in
set_option maxHeartbeats 3200000 in
theorem LexWords_walk (G : Nat) (n g m l : Addr) (s : ByteArray) (w : World) (hE : LxEnv G n g m l w) :
    Calls Tryd.prog 3 #[.string s] w fun e w' => e = .returned (.bool true) ∧ w.grownBy w' none := by
  have HA := Lib.hid (fun W (hW : w.grownBy W none) => awake10_any G n g m l W (hE.keep hW))
  have HW := Lib.hid (fun W => word_any s W)
  have HR := Lib.hid (fun W => refWord_any s W)
  have HL := Lib.hid (fun W (hW : w.grownBy W none) => Lex_any G n g m l s W (hE.keep hW))
  have HO := Lib.hid (fun (h : wordB s.data.toList = true) W (hW : w.grownBy W none) => Lex_ok G n g m l s W (hE.keep hW) _ (lex_word s h))
  clear hE
  by_cases hs : s.size ≤ 100
  · have hs' : (s.size : Int) ≤ 100 := by omega
    clear hs
    generalize wordB s.data.toList = b at *
    cases b
    · go_enter Tryd.func3, Tryd.ntmps3
      go_wp2_with fail
      refine (HA.out _ (grown_reflX _ _)).mono ?_
      rintro e w1 ⟨rfl, hg⟩
      have K1 := Lib.hid hg
      clear hg
      go_wp2_with fail
      refine (HW.out _).mono ?_
      rintro e w2 ⟨rfl, rfl⟩
      go_wp2_with fail
      refine (HR.out _).mono ?_
      rintro e w2 ⟨rfl, hg⟩
      have K2 := Lib.hid (K1.out.trans hg)
      clear hg
      go_wp2_with fail
      refine (HL.out _ K2.out).mono ?_
      rintro e w3 h
      rcases h with ⟨p, c, _, rfl, hg⟩ | ⟨t, v, _, rfl, _, hg⟩
      · have K3 := Lib.hid (K2.out.trans hg)
        clear hg
        go_wp2_with fail
        refine (HW.out _).mono ?_
        rintro e w2 ⟨rfl, rfl⟩
        go_wp2_with fail
        go_ret
        exact ⟨rfl, K3.out⟩
      · have K3 := Lib.hid (K2.out.trans hg)
        clear hg
        go_wp2_with fail
        refine (HW.out _).mono ?_
        rintro e w2 ⟨rfl, rfl⟩
        go_wp2_with fail
        go_ret
        exact ⟨rfl, K3.out⟩
    · go_enter Tryd.func3, Tryd.ntmps3
      go_wp2_with fail
      refine (HA.out _ (grown_reflX _ _)).mono ?_
      rintro e w1 ⟨rfl, hg⟩
      have K1 := Lib.hid hg
      clear hg
      go_wp2_with fail
      refine (HW.out _).mono ?_
      rintro e w2 ⟨rfl, rfl⟩
      go_wp2_with fail
      refine (HR.out _).mono ?_
      rintro e w2 ⟨rfl, hg⟩
      have K2 := Lib.hid (K1.out.trans hg)
      clear hg
      go_wp2_with fail
      refine (HO.out (by first | rfl | trivial) _ K2.out).mono ?_
      rintro e w3 ⟨v, rfl, ho, hg⟩
      obtain ⟨gb, cb, rfl, hcb, _, _⟩ := own_at ho (by simp)
      have K3 := Lib.hid (K2.out.trans hg)
      have b0 := ho.cellAt 0 (by simp)
      have b1 := ho.cellAt 1 (by simp)
      have b2 := ho.cellAt 2 (by simp)
      simp [Tk.c] at b0 b1 b2 hcb
      clear hg ho
      go_wp2_with fail
      refine (HW.out _).mono ?_
      rintro e w2 ⟨rfl, rfl⟩
      go_wp2_with fail
      go_ret
      exact ⟨rfl, K3.out⟩
  · have hs' : (100 : Int) < s.size := by omega
    clear hs
    go_enter Tryd.func3, Tryd.ntmps3
    go_wp2_with fail
    refine (HA.out _ (grown_reflX _ _)).mono ?_
    rintro e w1 ⟨rfl, hg⟩
    have K1 := Lib.hid hg
    clear hg
    go_wp2_with fail
    refine (HA.out _ K1.out).mono ?_
    rintro e w2 ⟨rfl, hg⟩
    have K2 := Lib.hid (K1.out.trans hg)
    clear hg
    go_wp2_with fail
    go_ret
    exact ⟨rfl, K2.out⟩
end Go.Proofs.YtiahojbliaaklaaDoor
