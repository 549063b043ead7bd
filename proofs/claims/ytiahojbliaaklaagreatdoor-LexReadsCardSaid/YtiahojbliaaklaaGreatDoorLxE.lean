/- The errors of lex in memory; the contracts of lex's literal and Word. -/
import Derived.Test.YtiahojbliaaklaaGreatDoorLxQ
import Derived.Test.YtiahojbliaaklaaGreatDoorLxAs
namespace Go.Proofs.YtiahojbliaaklaaGreatDoor
open Go.RowKit

theorem grown_reflX (w : World) (row : Option Nat) : w.grownBy w row := ⟨rfl, rfl, rfl, Nat.le_refl _, fun _ _ _ => rfl⟩
theorem grown_belowX {w w' : World} (h : Below w.heap.size w w') (row : Option Nat) : w.grownBy w' row := ⟨h.os, h.tape, h.output, h.size, fun i hi _ => h.block i hi⟩
theorem grown_drewX {w w' : World} {row : Option Nat} (h : w.grownBy w' row) (n : Nat) : w.grownBy (w'.drewN n) row := ⟨h.os, h.tape, h.output, h.size, h.block⟩
theorem grown_drew1X {w w' : World} {row : Option Nat} (h : w.grownBy w' row) : w.grownBy w'.drew row := ⟨h.os, h.tape, h.output, h.size, h.block⟩
/-- A sentinel: the variable g holds a pointer to a text of its own. -/
structure SenAt (G g : Nat) (a : Addr) (text : List UInt8) (w : World) : Prop where
  lt : g < G
  alt : a.block < G
  var : w.cell? ⟨g, 0, none⟩ = some (.iface 120 (.pointer (some a)))
  str : ∃ s, w.cell? a = some (.string s) ∧ s.data.toList = text
  blk : ∃ c t, w.heap[a.block]? = some (.cells c t (0, 0))
theorem SenAt.keep {G g : Nat} {a : Addr} {text : List UInt8} {w w' : World} (h : SenAt G g a text w) (hg : w.grownBy w' none) : SenAt G g a text w' := by
  obtain ⟨h1, h2, h3, ⟨s, h4, h5⟩, ⟨c, t, h6⟩⟩ := h
  have hlt : a.block < w.heap.size := by
    rcases Nat.lt_or_ge a.block w.heap.size with h | h
    · exact h
    · rw [Array.getElem?_eq_none h] at h6; cases h6
  exact ⟨h1, h2, hg.cell h3 (by simp), ⟨s, hg.cell h4 (by simp), h5⟩, ⟨c, t, by rw [hg.block _ hlt (by simp)]; exact h6⟩⟩
theorem SenAt.keepR {G g : Nat} {a : Addr} {text : List UInt8} {w w' : World} (h : SenAt G g a text w) {b : Nat} (hg : w.grownBy w' (some b)) (hb : G ≤ b) : SenAt G g a text w' := by
  obtain ⟨h1, h2, h3, ⟨s, h4, h5⟩, ⟨c, t, h6⟩⟩ := h
  have hlt : a.block < w.heap.size := by
    rcases Nat.lt_or_ge a.block w.heap.size with h | h
    · exact h
    · rw [Array.getElem?_eq_none h] at h6; cases h6
  exact ⟨h1, h2, hg.cell h3 (by simp; omega), ⟨s, hg.cell h4 (by simp; omega), h5⟩, ⟨c, t, by rw [hg.block _ hlt (by simp; omega)]; exact h6⟩⟩
theorem SenAt.ne {G g G' g' : Nat} {a b : Addr} {x y : List UInt8} {w : World} (h : SenAt G g a x w) (h' : SenAt G' g' b y w) (hxy : x ≠ y) : a ≠ b := by
  rintro rfl
  obtain ⟨s, h1, h2⟩ := h.str
  obtain ⟨t, h3, h4⟩ := h'.str
  rw [h1] at h3
  cases h3
  exact hxy (h2.symm.trans h4)
/-- What lex reads of package variables: its four errors, strconv's, errors' type. -/
structure LxEnv (G : Nat) (n g m l : Addr) (w : World) : Prop where
  sn : SenAt G 4 n [110, 111, 32, 116, 111, 107, 101, 110] w
  sg : SenAt G 3 g [97, 32, 118, 97, 108, 117, 101, 32, 116, 104, 97, 116, 32, 105, 115, 32, 116, 111, 111, 32, 103, 114, 101, 97, 116, 44, 32, 111, 114, 32, 116, 111, 111, 32, 108, 111, 110, 103] w
  sm : SenAt G 1 m [111, 110, 101, 32, 116, 111, 107, 101, 110, 32, 116, 111, 111, 32, 109, 97, 110, 121] w
  sl : SenAt G 0 l [97, 32, 116, 101, 120, 116, 32, 116, 104, 97, 116, 32, 105, 115, 32, 116, 111, 111, 32, 108, 111, 110, 103] w
  far : Far w
  fl : 7 < G
  et : ErrT G w
  le : G ≤ w.heap.size
theorem far_grown {w w' : World} (h : Far w) (hg : w.grownBy w' none) : Far w' := by
  obtain ⟨tp, p, h⟩ := h
  exact ⟨tp, p, hg.cell h (by simp)⟩
theorem LxEnv.keep {G : Nat} {n g m l : Addr} {w w' : World} (h : LxEnv G n g m l w) (hg : w.grownBy w' none) : LxEnv G n g m l w' :=
  ⟨h.sn.keep hg, h.sg.keep hg, h.sm.keep hg, h.sl.keep hg, far_grown h.far hg, h.fl, ⟨h.et.1, hg.cell h.et.2 (by simp)⟩, Nat.le_trans h.le hg.size⟩
theorem LxEnv.keepR {G : Nat} {n g m l : Addr} {w w' : World} (h : LxEnv G n g m l w) {b : Nat} (hg : w.grownBy w' (some b)) (hb : G ≤ b) : LxEnv G n g m l w' := by
  obtain ⟨tp, p, hf⟩ := h.far
  have hfl := h.fl
  have hel := h.et.1
  exact ⟨h.sn.keepR hg hb, h.sg.keepR hg hb, h.sm.keepR hg hb, h.sl.keepR hg hb, ⟨tp, p, hg.cell hf (by simp; omega)⟩, h.fl, ⟨hel, hg.cell h.et.2 (by simp; omega)⟩, Nat.le_trans h.le hg.size⟩
/-- The error of a number. -/
def errV (n g m l : Addr) : Nat → Value
  | 0 => .nilIface
  | 1 => .iface 120 (.pointer (some g))
  | 3 => .iface 120 (.pointer (some m))
  | 13 => .iface 120 (.pointer (some l))
  | _ => .iface 120 (.pointer (some n))
theorem litC_cases (l : List UInt8) : (readC l = 0 ∧ litC l = 0) ∨ (readC l = 1 ∧ litC l = 1) ∨ (readC l = 2 ∧ litC l = 10) := by
  have := readC_le l
  unfold litC
  obtain h | h | h : readC l = 0 ∨ readC l = 1 ∨ readC l = 2 := by omega
  all_goals rw [h]; simp
set_option maxHeartbeats 800000 in
theorem literal_any (G : Nat) (n g m l : Addr) (s : ByteArray) (w : World) (hs : s.size ≤ 1510) (hE : LxEnv G n g m l w) :
    Calls Tryz.prog 35 #[.string s] w fun e w' => e = .returned (errV n g m l (litC s.data.toList)) ∧ w.grownBy w' none := by
  have HR := Lib.hid (Read_any s w hs hE.far)
  obtain ⟨k, q, t, hv⟩ := readV_code s.data.toList
  rw [hv] at HR
  have HE := Lib.hid hE
  clear hv hE
  rcases litC_cases s.data.toList with ⟨h1, h2⟩ | ⟨h1, h2⟩ | ⟨h1, h2⟩
  · rw [h2]
    rw [h1] at HR
    clear h1 h2
    go_enter Tryz.func35, Tryz.ntmps35
    go_wp2_with fail
    refine (HR.out).mono ?_
    rintro e w2 ⟨rfl, hb⟩
    have K2 := Lib.hid ((grown_belowX hb none).trans (World.grownBy_alloc w2 (.cells #[.int .i64 k, .int .i64 q, .string t] 63) none))
    clear hb
    go_wp2_with fail
    go_ret
    exact ⟨rfl, K2.out⟩
  · rw [h2]
    rw [h1] at HR
    clear h1 h2
    go_enter Tryz.func35, Tryz.ntmps35
    go_wp2_with fail
    refine (HR.out).mono ?_
    rintro e w2 ⟨rfl, hb⟩
    have K2 := Lib.hid ((grown_belowX hb none).trans (World.grownBy_alloc w2 (.cells #[.int .i64 k, .int .i64 q, .string t] 63) none))
    have cv := (HE.out.keep K2.out).sg.var
    clear hb
    go_wp2_with fail
    go_ret
    exact ⟨rfl, K2.out⟩
  · rw [h2]
    rw [h1] at HR
    clear h1 h2
    go_enter Tryz.func35, Tryz.ntmps35
    go_wp2_with fail
    refine (HR.out).mono ?_
    rintro e w2 ⟨rfl, hb⟩
    have K2 := Lib.hid ((grown_belowX hb none).trans (World.grownBy_alloc w2 (.cells #[.int .i64 k, .int .i64 q, .string t] 63) none))
    have cv := (HE.out.keep K2.out).sn.var
    clear hb
    go_wp2_with fail
    go_ret
    exact ⟨rfl, K2.out⟩
end Go.Proofs.YtiahojbliaaklaaGreatDoor
