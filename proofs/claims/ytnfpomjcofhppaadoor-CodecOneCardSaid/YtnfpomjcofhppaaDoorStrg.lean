/- Contracts of the program's addString and String, and of the document's String. -/
import Derived.Test.YtnfpomjcofhppaaDoorNum
import Derived.Lib.AppendStr
namespace Go.Proofs.YtnfpomjcofhppaaDoor
open Go.RowKit

/-- A text's bytes behind its length. -/
def strB (s : ByteArray) : List UInt8 := numB s.size ++ s.data.toList
theorem strCells_bV (s : ByteArray) : Lib.strCells s = s.data.toList.map bV := rfl
theorem size_list (s : ByteArray) : s.data.toList.length = s.size := by simp
theorem OwnB.more_str {B : Nat} {w2 : World} {v' : Value} {l : List UInt8} {s : ByteArray}
    (hown : w2.ownsRow B 5 1 v' (l.length + s.size) (l.map bV ++ Lib.strCells s)) : OwnB B w2 v' (l ++ s.data.toList) := by
  unfold OwnB
  rw [List.length_append, List.map_append, size_list, ← strCells_bV]
  exact hown

set_option maxRecDepth 100000 in
set_option maxHeartbeats 1600000 in
theorem addString_any (B : Nat) (v : Value) (l : List UInt8) (s : ByteArray) (w : World) (h : OwnB B w v l) (hB : B ≤ w.heap.size) (hl : l.length ≤ 100000000) (hs : l.length + s.size ≤ 140737488355000) :
    Calls Tryd.prog 30 #[v, .string s] w (Adds B w (l ++ strB s)) := by
  have HN := Lib.hid (fun w h hB => addNumber_any B v l s.size w h hB hl (by omega))
  have hlen : (l ++ numB s.size).length ≤ l.length + 10 := by rw [List.length_append]; have := (numB_10 (n := s.size) (by omega)).2; omega
  have hr : l ++ strB s = (l ++ numB s.size) ++ s.data.toList := by unfold strB; simp
  rw [hr]
  clear hr
  generalize l ++ numB s.size = r at *
  have H := Lib.hid h
  clear h
  obtain ⟨i0, hi, hz0, hz1, hz2⟩ := info_parts u8_info
  go_enter Tryd.func30, Tryd.ntmps30
  go_wp2_with fail
  refine (HN.out _ H.out hB).mono ?_
  rintro e w1 ⟨v1, rfl, ho, hb⟩
  have O := Lib.hid ho
  have K := Lib.hid hb
  have hB1 : B ≤ w1.heap.size := by have := hb.size; omega
  clear ho hb
  go_wp2_with (at_builtin; refine Lib.wpList_append_own_string _ rfl _ _ 22 9 rfl B 5 i0 Tryd.underlying22 Tryd.underlying9 hi hz0 hz1 hz2 _ _ _ rfl O.out s rfl ?c3 ?c4 ?c5 ?_)
  case c3 => unfold maxLen; omega
  case c4 => omega
  case c5 => omega
  intro v' w2 hown' hgrow _
  have O2 := Lib.hid (OwnB.more_str hown')
  have K2 := Lib.hid (O.out.grown K.out hB1 hgrow)
  clear hown' hgrow
  go_wp2_with fail
  go_ret
  exact ⟨_, rfl, O2.out, K2.out⟩

end Go.Proofs.YtnfpomjcofhppaaDoor
