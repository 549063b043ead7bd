/- The law CodecOne walked: true at any bytes. -/
import Derived.Test.YtnfpomjcofhppaaDoorReadX
import Derived.Test.YtnfpomjcofhppaaDoorRowsW
import Derived.Deep.RegionWith
namespace Go.Proofs.YtnfpomjcofhppaaDoor
open Go.RowKit

theorem BAt.pre {B : Nat} {w : World} {a : Option Addr} {l : List UInt8} (h : BAt B w a l) {k c : Nat} (hk : k ≤ l.length) (h1 : 1 ≤ k) :
    (convert 22 9 (.slice a k c)).run Tryd.prog w = .ok (.string ⟨(l.take k).toArray⟩) w := by
  obtain ⟨b, off, rfl, _, _⟩ := h.at (i := 0) (by omega)
  have := h.text (q := 0) (n := k) (c := c) (by omega)
  simpa using this
theorem okRow_of {r : Rw} (h1 : r.l.length ≤ 255) (h2 : ∀ v ∈ r.l, v.good = true ∧ v.fits) : r.okR = true := by
  unfold Rw.okR
  rw [Bool.and_eq_true, List.all_eq_true]
  exact ⟨decide_eq_true h1, fun v hv => (h2 v hv).1⟩
theorem oneRows_yes {G : Nat} {a : Option Addr} {l : List UInt8} {cap k : Nat} {ls : List (List Vl)} {w : World} (h : Env G w a l cap) (hl : l.length ≤ 20000) (hr : readL l = some (ls, k)) :
    Calls Tryd.prog 5 #[.slice a l.length cap] w fun e w' => ∃ a' n cap', e = .returned (.tuple #[.slice a' n cap', .int .i64 k, .int .i64 0]) ∧ w.grownBy w' none
      ∧ Hid (∀ w2, w'.grownBy w2 none → Calls Tryd.prog 8 #[.slice a' n cap'] w2 (Adds w2.heap.size w2 (l.take k))) := by
  obtain ⟨htake, hn, hk1, hk, hgood⟩ := readL_some hr
  refine (readRows_any G a l cap w h (by omega)).mono fun e w' ⟨hp, hg⟩ => ?_
  obtain ⟨a', cap', rws, rfl, hls, hlow⟩ := hp.1 ls k hr
  refine ⟨a', rws.length, cap', rfl, hg, Lib.hid fun w2 hg2 => ?_⟩
  have e : rowsB rws = l.take k := by rw [rowsB_L hls, htake]
  have hlen : rws.length = ls.length := by rw [← hls, List.length_map]
  have := rowsW_any a' cap' rws w2 (hlow.next hg2) (List.all_eq_true.2 fun r hr => by
    have hm : r.l ∈ ls := by rw [← hls]; exact List.mem_map_of_mem hr
    exact okRow_of (hgood _ hm).1 (hgood _ hm).2) (by rw [e, List.length_take]; omega) (by omega)
  rw [e] at this
  exact this
theorem oneRows_no {G : Nat} {a : Option Addr} {l : List UInt8} {cap : Nat} {w : World} (h : Env G w a l cap) (hl : l.length ≤ 20000) (hr : readL l = none) :
    Calls Tryd.prog 5 #[.slice a l.length cap] w fun e w' => e = .returned (.tuple #[.slice none 0 0, .int .i64 0, .int .i64 2]) ∧ w.grownBy w' none := by
  refine (readRows_any G a l cap w h (by omega)).mono fun e w' ⟨hp, hg⟩ => ?_
  exact ⟨hp.2 hr, hg⟩
theorem oneVal_yes {G : Nat} {a : Option Addr} {l : List UInt8} {cap k : Nat} {v : Vl} {w : World} (h : Env G w a l cap) (hr : readV l = some (v, k)) :
    Calls Tryd.prog 6 #[.slice a l.length cap] w fun e w' => e = .returned (.tuple #[.agg #[.int .i64 v.k, .int .i64 v.n, .string v.s], .int .i64 k, .int .i64 0]) ∧ w.grownBy w' none := by
  have := readValue_any G a l cap w h
  rw [hr] at this
  exact this
theorem oneVal_no {G : Nat} {a : Option Addr} {l : List UInt8} {cap : Nat} {w : World} (h : Env G w a l cap) (hr : readV l = none) :
    Calls Tryd.prog 6 #[.slice a l.length cap] w fun e w' => e = .returned (.tuple #[.agg #[.int .i64 0, .int .i64 0, .string ⟨#[]⟩], .int .i64 0, .int .i64 2]) ∧ w.grownBy w' none := by
  have := readValue_any G a l cap w h
  rw [hr] at this
  exact this
theorem oneNum_yes {G : Nat} {a : Option Addr} {l : List UInt8} {cap k n : Nat} {w : World} (h : Env G w a l cap) (hr : readN l = some (n, k)) :
    Calls Tryd.prog 7 #[.slice a l.length cap] w fun e w' => e = .returned (.tuple #[.int .u64 n, .int .i64 k, .int .i64 0]) ∧ w.grownBy w' none := by
  have := readNumber_any G a l cap w h
  rw [hr] at this
  exact this
theorem oneNum_no {G : Nat} {a : Option Addr} {l : List UInt8} {cap : Nat} {w : World} (h : Env G w a l cap) (hr : readN l = none) :
    Calls Tryd.prog 7 #[.slice a l.length cap] w fun e w' => e = .returned (.tuple #[.int .u64 0, .int .i64 0, .int .i64 2]) ∧ w.grownBy w' none := by
  have := readNumber_any G a l cap w h
  rw [hr] at this
  exact this
theorem grown_of_below {w w' : World} (h : Below w.heap.size w w') : w.grownBy w' none := grown_below h none
theorem grown_re {w w1 : World} {row : Option Nat} {n : Nat} (h : w.grownBy w1.drew row) : w.grownBy (w1.drewN n) row := ⟨h.os, h.tape, h.output, h.size, h.block⟩
theorem box_next {w w1 : World} {g : Nat} {v0 v1 v2 : Value} (hb : Below w.heap.size w w1) (h : w.cell? ⟨g, 0, none⟩ = some v0 ∧ w.cell? ⟨g, 1, none⟩ = some v1 ∧ w.cell? ⟨g, 2, none⟩ = some v2) : w1.cell? ⟨g, 0, none⟩ = some v0 ∧ w1.cell? ⟨g, 1, none⟩ = some v1 ∧ w1.cell? ⟨g, 2, none⟩ = some v2 ∧ True ∧ True ∧ True :=
  ⟨(hb.cell (p := ⟨g, 0, none⟩) (block_lt_of_cell h.1)).trans h.1, (hb.cell (p := ⟨g, 1, none⟩) (block_lt_of_cell h.2.1)).trans h.2.1, (hb.cell (p := ⟨g, 2, none⟩) (block_lt_of_cell h.2.2)).trans h.2.2, trivial, trivial, trivial⟩
end Go.Proofs.YtnfpomjcofhppaaDoor
