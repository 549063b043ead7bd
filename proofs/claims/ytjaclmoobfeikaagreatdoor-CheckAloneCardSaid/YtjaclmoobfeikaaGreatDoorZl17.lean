/- What is read without an error names its columns. tree's walk: how it goes down. The contract of lex's Word. (Laid by tools/gen_lxword.py.) -/
import Derived.Test.YtjaclmoobfeikaaGreatDoorZl13
import Derived.Test.YtjaclmoobfeikaaGreatDoorZl15
import Derived.Test.YtjaclmoobfeikaaGreatDoorZl16
namespace Go.Proofs.YtjaclmoobfeikaaGreatDoor

/-- If no error is there behind it, none was ahead of it. -/
def RS.bk (s t : RS) : Prop := t.err = none → s.err = none
theorem RS.bk.refl (s : RS) : s.bk s := id
theorem RS.bk.trans {s t u : RS} (h : s.bk t) (h' : t.bk u) : s.bk u := fun e => h (h' e)
/-- The columns that a predicate names, but for its kids. -/
def Prd.nms : Prd → List ByteArray
  | .mk k c _ _ o _ _ _ => if k = 3 ∨ k = 5 ∨ k = 6 ∨ k = 7 then [c] else if k = 4 then [c, o] else []
/-- What a predicate names stands there, and nothing else. -/
def Prd.own : Prd → Prop
  | .mk k c _ _ o _ _ _ => (k = 3 ∨ k = 5 ∨ k = 6 ∨ k = 7 → c ≠ ⟨#[]⟩ ∧ o = ⟨#[]⟩) ∧ (k = 4 → c ≠ ⟨#[]⟩ ∧ o ≠ ⟨#[]⟩) ∧ (¬ (k = 3 ∨ k = 4 ∨ k = 5 ∨ k = 6 ∨ k = 7) → c = ⟨#[]⟩ ∧ o = ⟨#[]⟩)
mutual
def Prd.wf : Prd → Prop
  | .mk k c r v o l ks p => Prd.own (.mk k c r v o l ks p) ∧ Prd.wfs ks
def Prd.wfs : List Prd → Prop
  | [] => True
  | x :: r => x.wf ∧ Prd.wfs r
end
/-- An item that isn't COUNT of all names a column; COUNT of all none. -/
def Itm.wf (x : Itm) : Prop := (x.agg ≠ 1 → x.col ≠ ⟨#[]⟩) ∧ (x.agg = 1 → x.col = ⟨#[]⟩)
end Go.Proofs.YtjaclmoobfeikaaGreatDoor
namespace Go.Proofs.YtjaclmoobfeikaaGreatDoor
open Go.RowKit

end Go.Proofs.YtjaclmoobfeikaaGreatDoor
namespace Go.Proofs.YtjaclmoobfeikaaGreatDoor
open Go.RowKit

set_option maxHeartbeats 3200000 in
theorem word_any (s : ByteArray) (w : World) : Calls Tryz.prog 141 #[.string s] w fun e w' => e = .returned (.bool (wordB s.data.toList)) ∧ w = w' := by
  by_cases h0 : s.data.toList = [83, 69, 76, 69, 67, 84]
  · have hw : wordB s.data.toList = true := by rw [h0]; decide
    rw [hw]
    have t0 := bytes_is h0
    clear hw h0
    go_enter Tryz.func141, Tryz.ntmps141
    go_wp2_with fail
    go_ret
    exact ⟨rfl, rfl⟩
  have t0 := bytes_not h0
  have H0 := Lib.hid h0
  clear h0
  by_cases h1 : s.data.toList = [70, 82, 79, 77]
  · have hw : wordB s.data.toList = true := by rw [h1]; decide
    rw [hw]
    have t1 := bytes_is h1
    clear hw h1
    go_enter Tryz.func141, Tryz.ntmps141
    go_wp2_with fail
    go_ret
    exact ⟨rfl, rfl⟩
  have t1 := bytes_not h1
  have H1 := Lib.hid h1
  clear h1
  by_cases h2 : s.data.toList = [87, 72, 69, 82, 69]
  · have hw : wordB s.data.toList = true := by rw [h2]; decide
    rw [hw]
    have t2 := bytes_is h2
    clear hw h2
    go_enter Tryz.func141, Tryz.ntmps141
    go_wp2_with fail
    go_ret
    exact ⟨rfl, rfl⟩
  have t2 := bytes_not h2
  have H2 := Lib.hid h2
  clear h2
  by_cases h3 : s.data.toList = [71, 82, 79, 85, 80]
  · have hw : wordB s.data.toList = true := by rw [h3]; decide
    rw [hw]
    have t3 := bytes_is h3
    clear hw h3
    go_enter Tryz.func141, Tryz.ntmps141
    go_wp2_with fail
    go_ret
    exact ⟨rfl, rfl⟩
  have t3 := bytes_not h3
  have H3 := Lib.hid h3
  clear h3
  by_cases h4 : s.data.toList = [79, 82, 68, 69, 82]
  · have hw : wordB s.data.toList = true := by rw [h4]; decide
    rw [hw]
    have t4 := bytes_is h4
    clear hw h4
    go_enter Tryz.func141, Tryz.ntmps141
    go_wp2_with fail
    go_ret
    exact ⟨rfl, rfl⟩
  have t4 := bytes_not h4
  have H4 := Lib.hid h4
  clear h4
  by_cases h5 : s.data.toList = [66, 89]
  · have hw : wordB s.data.toList = true := by rw [h5]; decide
    rw [hw]
    have t5 := bytes_is h5
    clear hw h5
    go_enter Tryz.func141, Tryz.ntmps141
    go_wp2_with fail
    go_ret
    exact ⟨rfl, rfl⟩
  have t5 := bytes_not h5
  have H5 := Lib.hid h5
  clear h5
  by_cases h6 : s.data.toList = [76, 73, 77, 73, 84]
  · have hw : wordB s.data.toList = true := by rw [h6]; decide
    rw [hw]
    have t6 := bytes_is h6
    clear hw h6
    go_enter Tryz.func141, Tryz.ntmps141
    go_wp2_with fail
    go_ret
    exact ⟨rfl, rfl⟩
  have t6 := bytes_not h6
  have H6 := Lib.hid h6
  clear h6
  by_cases h7 : s.data.toList = [65, 83, 67]
  · have hw : wordB s.data.toList = true := by rw [h7]; decide
    rw [hw]
    have t7 := bytes_is h7
    clear hw h7
    go_enter Tryz.func141, Tryz.ntmps141
    go_wp2_with fail
    go_ret
    exact ⟨rfl, rfl⟩
  have t7 := bytes_not h7
  have H7 := Lib.hid h7
  clear h7
  by_cases h8 : s.data.toList = [68, 69, 83, 67]
  · have hw : wordB s.data.toList = true := by rw [h8]; decide
    rw [hw]
    have t8 := bytes_is h8
    clear hw h8
    go_enter Tryz.func141, Tryz.ntmps141
    go_wp2_with fail
    go_ret
    exact ⟨rfl, rfl⟩
  have t8 := bytes_not h8
  have H8 := Lib.hid h8
  clear h8
  by_cases h9 : s.data.toList = [65, 78, 68]
  · have hw : wordB s.data.toList = true := by rw [h9]; decide
    rw [hw]
    have t9 := bytes_is h9
    clear hw h9
    go_enter Tryz.func141, Tryz.ntmps141
    go_wp2_with fail
    go_ret
    exact ⟨rfl, rfl⟩
  have t9 := bytes_not h9
  have H9 := Lib.hid h9
  clear h9
  by_cases h10 : s.data.toList = [79, 82]
  · have hw : wordB s.data.toList = true := by rw [h10]; decide
    rw [hw]
    have t10 := bytes_is h10
    clear hw h10
    go_enter Tryz.func141, Tryz.ntmps141
    go_wp2_with fail
    go_ret
    exact ⟨rfl, rfl⟩
  have t10 := bytes_not h10
  have H10 := Lib.hid h10
  clear h10
  by_cases h11 : s.data.toList = [78, 79, 84]
  · have hw : wordB s.data.toList = true := by rw [h11]; decide
    rw [hw]
    have t11 := bytes_is h11
    clear hw h11
    go_enter Tryz.func141, Tryz.ntmps141
    go_wp2_with fail
    go_ret
    exact ⟨rfl, rfl⟩
  have t11 := bytes_not h11
  have H11 := Lib.hid h11
  clear h11
  by_cases h12 : s.data.toList = [73, 83]
  · have hw : wordB s.data.toList = true := by rw [h12]; decide
    rw [hw]
    have t12 := bytes_is h12
    clear hw h12
    go_enter Tryz.func141, Tryz.ntmps141
    go_wp2_with fail
    go_ret
    exact ⟨rfl, rfl⟩
  have t12 := bytes_not h12
  have H12 := Lib.hid h12
  clear h12
  by_cases h13 : s.data.toList = [73, 78]
  · have hw : wordB s.data.toList = true := by rw [h13]; decide
    rw [hw]
    have t13 := bytes_is h13
    clear hw h13
    go_enter Tryz.func141, Tryz.ntmps141
    go_wp2_with fail
    go_ret
    exact ⟨rfl, rfl⟩
  have t13 := bytes_not h13
  have H13 := Lib.hid h13
  clear h13
  by_cases h14 : s.data.toList = [66, 69, 84, 87, 69, 69, 78]
  · have hw : wordB s.data.toList = true := by rw [h14]; decide
    rw [hw]
    have t14 := bytes_is h14
    clear hw h14
    go_enter Tryz.func141, Tryz.ntmps141
    go_wp2_with fail
    go_ret
    exact ⟨rfl, rfl⟩
  have t14 := bytes_not h14
  have H14 := Lib.hid h14
  clear h14
  by_cases h15 : s.data.toList = [78, 85, 76, 76]
  · have hw : wordB s.data.toList = true := by rw [h15]; decide
    rw [hw]
    have t15 := bytes_is h15
    clear hw h15
    go_enter Tryz.func141, Tryz.ntmps141
    go_wp2_with fail
    go_ret
    exact ⟨rfl, rfl⟩
  have t15 := bytes_not h15
  have H15 := Lib.hid h15
  clear h15
  by_cases h16 : s.data.toList = [84, 82, 85, 69]
  · have hw : wordB s.data.toList = true := by rw [h16]; decide
    rw [hw]
    have t16 := bytes_is h16
    clear hw h16
    go_enter Tryz.func141, Tryz.ntmps141
    go_wp2_with fail
    go_ret
    exact ⟨rfl, rfl⟩
  have t16 := bytes_not h16
  have H16 := Lib.hid h16
  clear h16
  by_cases h17 : s.data.toList = [70, 65, 76, 83, 69]
  · have hw : wordB s.data.toList = true := by rw [h17]; decide
    rw [hw]
    have t17 := bytes_is h17
    clear hw h17
    go_enter Tryz.func141, Tryz.ntmps141
    go_wp2_with fail
    go_ret
    exact ⟨rfl, rfl⟩
  have t17 := bytes_not h17
  have H17 := Lib.hid h17
  clear h17
  by_cases h18 : s.data.toList = [67, 79, 85, 78, 84]
  · have hw : wordB s.data.toList = true := by rw [h18]; decide
    rw [hw]
    have t18 := bytes_is h18
    clear hw h18
    go_enter Tryz.func141, Tryz.ntmps141
    go_wp2_with fail
    go_ret
    exact ⟨rfl, rfl⟩
  have t18 := bytes_not h18
  have H18 := Lib.hid h18
  clear h18
  by_cases h19 : s.data.toList = [83, 85, 77]
  · have hw : wordB s.data.toList = true := by rw [h19]; decide
    rw [hw]
    have t19 := bytes_is h19
    clear hw h19
    go_enter Tryz.func141, Tryz.ntmps141
    go_wp2_with fail
    go_ret
    exact ⟨rfl, rfl⟩
  have t19 := bytes_not h19
  have H19 := Lib.hid h19
  clear h19
  by_cases h20 : s.data.toList = [77, 73, 78]
  · have hw : wordB s.data.toList = true := by rw [h20]; decide
    rw [hw]
    have t20 := bytes_is h20
    clear hw h20
    go_enter Tryz.func141, Tryz.ntmps141
    go_wp2_with fail
    go_ret
    exact ⟨rfl, rfl⟩
  have t20 := bytes_not h20
  have H20 := Lib.hid h20
  clear h20
  by_cases h21 : s.data.toList = [77, 65, 88]
  · have hw : wordB s.data.toList = true := by rw [h21]; decide
    rw [hw]
    have t21 := bytes_is h21
    clear hw h21
    go_enter Tryz.func141, Tryz.ntmps141
    go_wp2_with fail
    go_ret
    exact ⟨rfl, rfl⟩
  have t21 := bytes_not h21
  have H21 := Lib.hid h21
  clear h21
  have hw : wordB s.data.toList = false := by
    unfold wordB words
    simp only [List.contains_eq_mem, List.mem_cons, List.not_mem_nil, or_false, decide_eq_false_iff_not, not_or]
    exact ⟨H0.out, H1.out, H2.out, H3.out, H4.out, H5.out, H6.out, H7.out, H8.out, H9.out, H10.out, H11.out, H12.out, H13.out, H14.out, H15.out, H16.out, H17.out, H18.out, H19.out, H20.out, H21.out⟩
  rw [hw]
  clear hw
  go_enter Tryz.func141, Tryz.ntmps141
  go_wp2_with fail
  go_ret
  exact ⟨rfl, rfl⟩
end Go.Proofs.YtjaclmoobfeikaaGreatDoor
