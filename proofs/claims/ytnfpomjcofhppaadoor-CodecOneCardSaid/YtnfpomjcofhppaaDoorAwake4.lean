/- The law's fixed fact. -/
import Derived.Test.YtnfpomjcofhppaaDoorRow4
namespace Go.Proofs.YtnfpomjcofhppaaDoor
open Go.RowKit

/-- Bytes of the call's own, as a text. -/
theorem own_string {B : Nat} {w : World} {v : Value} {l : List UInt8} (h : OwnB B w v l) (hl : 0 < l.length) : (convert 22 9 v).run Tryd.prog w = .ok (.string ⟨l.toArray⟩) w := by
  obtain ⟨g, cap, rfl, hs⟩ := h.src hl
  exact run_convert_bytes_back w _ _ 5 ⟨g, 0, none⟩ cap l Tryd.underlying22 Tryd.underlying5 Tryd.underlying9 (fun j hj => hs j _ (by simp [hj, bV]))
theorem row_of {a : Option Addr} {cap len : Nat} {l : List Vl} {w : World} (hl : l.length = len) (h : RowLow w.heap.size w a l) (hg : ∀ x ∈ l, x.good = true) (h255 : l.length ≤ 255) :
    Calls Tryd.prog 11 #[.slice a len cap] w (Adds w.heap.size w (rowB l)) := by
  subst hl
  exact row_any a cap l w h hg h255
def three : List Vl := [⟨2, 5, ⟨#[]⟩⟩, ⟨0, 0, ⟨#[]⟩⟩, ⟨3, 0, ⟨#[97, 98]⟩⟩]
theorem three_bytes : rowB three = [3, 3, 10, 0, 4, 2, 97, 98] := by
  have e : numB (ByteArray.size ⟨#[97, 98]⟩) = [2] := by rw [numB_small (by decide)]; rfl
  simp [rowB, three, Vl.bytes, valB, strB, zig, numB_small, e]
theorem n300 : numB 300 = [172, 2] := by
  rw [numB_great (by omega), numB_small (by omega)]
  rfl
theorem three_low (W : World) (T : TypeId) (b : Nat) (hb : b = W.heap.size) : RowLow (W.alloc (.cells #[.int .i64 2, .int .i64 5, .string ⟨#[]⟩, .int .i64 0, .int .i64 0, .string ⟨#[]⟩, .int .i64 3, .int .i64 0, .string ⟨#[97, 98]⟩] T)).heap.size (W.alloc (.cells #[.int .i64 2, .int .i64 5, .string ⟨#[]⟩, .int .i64 0, .int .i64 0, .string ⟨#[]⟩, .int .i64 3, .int .i64 0, .string ⟨#[97, 98]⟩] T)) (some ⟨b, 0, none⟩) three := by
  subst hb
  refine ⟨by simp [three], ?_, .inr ⟨W.heap.size, 0, rfl, by simp, ?_⟩⟩
  · intro x hx
    simp only [three, List.mem_cons, List.not_mem_nil, or_false] at hx
    rcases hx with rfl | rfl | rfl <;> exact ⟨by unfold maxLen; decide, by decide, by decide⟩
  · intro i hi
    simp only [three, List.length_cons, List.length_nil] at hi
    obtain rfl | rfl | rfl : i = 0 ∨ i = 1 ∨ i = 2 := by omega
    all_goals simp [three]
theorem three_good : ∀ x ∈ three, x.good = true := by
  intro x hx
  simp only [three, List.mem_cons, List.not_mem_nil, or_false] at hx
  rcases hx with rfl | rfl | rfl <;> first | rfl | (simp [Vl.good, goodB]; done) | (simp [Vl.good, goodB]; decide)

set_option maxHeartbeats 400000 in
theorem refInt_any (n : Int) (w : World) :
    Calls Tryd.prog 12 #[.int .i64 n] w fun e w' => e = .returned (.agg #[.int .i64 2, .int .i64 n, .string ⟨#[]⟩]) ∧ w.alloc (.cells #[.int .i64 2, .int .i64 n, .string ⟨#[]⟩] 30) = w' := by
  go_enter Tryd.func12, Tryd.ntmps12
  go_wp2
  exact bodyPost_ret (v := .agg #[.int .i64 2, .int .i64 n, .string ⟨#[]⟩]) (by simp [results, Tryd.results12, go_sem]) rfl ⟨rfl, rfl⟩

set_option maxRecDepth 100000 in
set_option maxHeartbeats 3200000 in
theorem awake_any (w : World) :
    Calls Tryd.prog 4 #[] w fun e w' => e = .returned (.bool true) ∧ Below w.heap.size w w' := by
  have HN := Lib.hid (fun w => number_any 300 w (by omega))
  rw [n300] at HN
  have HI := Lib.hid (fun w => refInt_any 5 w)
  go_enter Tryd.func4, Tryd.ntmps4
  go_wp2_with fail
  refine (HI.out _).mono ?_
  rintro e w1 ⟨rfl, rfl⟩
  go_wp2_with fail
  have HT := Lib.hid (row_of (cap := 3) (len := 3) rfl (three_low (w.alloc (.cells #[.int .i64 2, .int .i64 5, .string ⟨#[]⟩] 30)) 30 (w.heap.size + 1) (by simp)) three_good (by decide))
  refine HT.out.mono ?_
  rintro e w2 ⟨v2, rfl, ho2, hb2⟩
  rw [three_bytes] at ho2
  have hcv := own_string ho2 (by decide)
  have K2 := Lib.hid ((((Below.refl w.heap.size w).alloc (Nat.le_refl _) (.cells #[.int .i64 2, .int .i64 5, .string ⟨#[]⟩] 30)).alloc (by simp) (.cells #[.int .i64 2, .int .i64 5, .string ⟨#[]⟩, .int .i64 0, .int .i64 0, .string ⟨#[]⟩, .int .i64 3, .int .i64 0, .string ⟨#[97, 98]⟩] 30)).trans (hb2.mono (by simp; omega)))
  clear ho2 hb2
  go_wp2_with fail
  refine (HN.out _).mono ?_
  rintro e w3 ⟨v3, rfl, ho3, hb3⟩
  have hcv3 := own_string ho3 (by decide)
  have K3 := Lib.hid (K2.out.trans (hb3.mono K2.out.size))
  clear ho3 hb3
  go_wp2_with fail
  go_ret
  exact ⟨ret_bool (by simp), K3.out⟩
end Go.Proofs.YtnfpomjcofhppaaDoor
