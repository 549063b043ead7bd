/- The contract of the document's Neg. -/
import Derived.Test.YtjgpflodbloneaaDoorRefOf
import Derived.Deep.RegionHeld3
import Derived.Deep.RegionWith
import Derived.Deep.QuietTactic
import Derived.BigQuiet
namespace Go.Proofs.YtjgpflodbloneaaDoor
open Go.RowKit

/-- What a round of Neg knows. -/
def Twin (w wr : World) (f : Nat → Bool) : Prop := Below w.heap.size w wr ∧ w.heap.size + 2 ≤ wr.heap.size ∧ BArr wr w.heap.size f ∧ BArr wr (w.heap.size + 1) (fun _ => false)
theorem start2n (w : World) (x : BitVec 128) : Twin w ((w.alloc (.cells (wArr x) 29)).alloc (.cells Tryd.zeroCells29 29)) (fun i => x.getLsbD i) := by
  have a1 := BArr.new w (fun i => x.getLsbD i)
  have a3 := BArr.zero (w.alloc (.cells (wArr x) 29))
  simp only [World.size_alloc] at a3
  exact ⟨((Below.refl _ _).alloc (Nat.le_refl _) _).alloc (by simp) _, by simp, a1.alloc _, a3⟩
theorem Twin.set {w wr : World} {f : Nat → Bool} (h : Twin w wr f) {i : Nat} (hi : i < 128) (b : Bool) : Twin w (wr.setCell ⟨w.heap.size, i, none⟩ (.bool b)) (fun j => if j = i then b else f j) :=
  ⟨h.1.setCell (by show w.heap.size ≤ w.heap.size; omega) _, by simpa using h.2.1, h.2.2.1.set hi b, h.2.2.2.set_other (by omega) _ _⟩
theorem Twin.of {w wr : World} {f f' : Nat → Bool} (h : Twin w wr f) (e : fArr f = fArr f') : Twin w wr f' := ⟨h.1, h.2.1, h.2.2.1.of e, h.2.2.2⟩

theorem rangeAt_lt {w : World} {g o : Nat} {v : Value} {l : List Value} (h : w.rangeAt g o (v :: l)) : g < w.heap.size := by
  have := h 0 v rfl
  exact block_lt_of_cell this
theorem rangeAt_below {w w' : World} {g o : Nat} {l : List Value} (h : w.rangeAt g o l) (hb : Below w.heap.size w w') : w'.rangeAt g o l := fun j v hv => by
  have hc := h j v hv
  exact (hb.cell (p := ⟨g, _, none⟩) (block_lt_of_cell hc)).trans hc
theorem there_below {w w' : World} {g o n : Nat} (h : w.there g o n) (hb : Below w.heap.size w w') : w'.there g o n := fun j hj => by
  obtain ⟨h1, h2⟩ := h j hj
  obtain ⟨v, hv⟩ := Option.isSome_iff_exists.1 h1
  have hlt := block_lt_of_cell hv
  exact ⟨by rw [hb.cell (p := ⟨g, _, none⟩) hlt]; exact h1, (hb.frozen (p := ⟨g, _, none⟩) hlt).trans h2⟩

theorem results_cell_mid {P : Program} {fn : Func} {p : Tmp} {ty : TypeId} (h : fn.results = #[.cell p ty]) (tmps : Array Value) (w : World) (g : Nat) (cs : List Value) (d : TypeDesc)
    (hp : tmps.getD p undef = .pointer (some ⟨g, 0, none⟩)) (hg : w.rangeAt g 0 cs)
    (hu : P.underlying ty = some d) (hd : d.isRow = true) (hi : (P.info? ty).map (·.size) = some cs.length) :
    (results fn tmps).run P w = .ok (.agg cs.toArray) w := by
  have hp' : tmps[p]?.getD undef = .pointer (some ⟨g, 0, none⟩) := by simpa using hp
  simp [results, h, hp', asAddr, run_loadVar_mid w g 0 ty cs d hg hu hd hi]
theorem below_setCells {B : Nat} {w w1 : World} (h : Below B w w1) {g : Nat} (hg : B ≤ g) : ∀ (l : List Value) (o : Nat), Below B w (w1.setCells g o l)
  | [], _ => h
  | v :: l, o => below_setCells (h.setCell (by exact hg) _) hg l (o + 1)

set_option maxRecDepth 100000 in
set_option maxHeartbeats 1600000 in
theorem refNeg_any (x : BitVec 128) (w : World) :
    Calls Tryd.prog 20 #[.agg (wArr x)] w fun e w' => e = .returned (.agg (wArr (-x))) ∧ Below w.heap.size w w' := by
  have HO := Lib.hid (fun w => refOf_any 1 w (by omega) (by omega))
  have HA := Lib.hid (fun w => refAdd_any (~~~x) (BitVec.ofInt 128 1) w)
  rw [neg_not] at HA
  generalize hy : BitVec.ofInt 128 1 = y at *
  clear hy
  go_enter Tryd.func20, Tryd.ntmps20
  go_wp2_with fail
  go_loopw [4] (fun i wr => ∃ k : Nat, k ≤ 128 ∧ i = .int .i64 k ∧ Hid (Twin w wr (nF x k))) (fun i _ => 128 - (intOf i).toNat)
  case atStart => exact ⟨0, by omega, rfl, Lib.hid ((start2n w x).of (nF_zero _).symm)⟩
  case round =>
    obtain ⟨k, hk, rfl, K⟩ := hrel
    by_cases hlt : k < 128
    · have c1 := K.out.2.2.1.cell (i := k) hlt
      have f1 := K.out.2.2.1.frozen k
      have HS := Lib.hid (nF_step x k hlt)
      generalize nF x k k = b at *
      go_wp2
      go_roundw
      case rel => exact ⟨k + 1, by omega, by go_num, Lib.hid ((K.out.set hlt (!b)).of HS.out)⟩
      case measure => simp [intOf]; omega
    · obtain rfl : k = 128 := by omega
      have KE := K.out.of (nF_end x)
      have HB : BArr wr w.heap.size (fun i => (~~~x).getLsbD i) := KE.2.2.1
      have HR := KE.2.2.2
      have HZ := KE.2.1
      have HBl := Lib.hid KE.1
      clear K KE
      have hrg : wr.rangeAt w.heap.size 0 (fL (fun i => (~~~x).getLsbD i)) := HB.range
      have hth : wr.there (w.heap.size + 1) 0 128 := HR.there
      have hu := Tryd.underlying29
      have hi := wide_len (fun i => (~~~x).getLsbD i)
      have hi2 := wide_len (fun i => (-x).getLsbD i)
      have hl2 := fL_length (fun i => (-x).getLsbD i)
      have h1 := fL_one (fun i => (-x).getLsbD i)
      have HA' : Hid (∀ w, Calls Tryd.prog 41 #[.agg (fL (fun i => (~~~x).getLsbD i)).toArray, .agg (wArr y)] w fun e w' => e = .returned (.agg (fL (fun i => (-x).getLsbD i)).toArray) ∧ Below w.heap.size w w') := Lib.hid HA.out
      generalize hn : fL (fun i => (-x).getLsbD i) = n at *
      generalize fL (fun i => (~~~x).getLsbD i) = nx at *
      clear HB HR
      go_wp2_with fail
      go_region_held3 (fun w' => w'.rangeAt w.heap.size 0 nx ∧ w'.there (w.heap.size + 1) 0 128) (first | go_keep | exact ⟨hrg, hth⟩ | exact c1 | exact c2 | exact ⟨World.rangeAt_setCells_apart c2.1 _ _ _ (.inl (by omega)), World.there_setCells c2.2 _ _ _⟩) (first | (go_at_call 42; refine (HO.out _).mono ?_; rintro e w1 ⟨rfl, hb1⟩; have c1 : w1.rangeAt w.heap.size 0 nx ∧ w1.there (w.heap.size + 1) 0 128 := ⟨rangeAt_below hrg ((Below.refl _ _).drew.trans hb1), there_below hth ((Below.refl _ _).drew.trans hb1)⟩) | (go_at_call 41; refine (HA'.out _).mono ?_; rintro e w2 ⟨rfl, hb2⟩; have c2 : w2.rangeAt w.heap.size 0 nx ∧ w2.there (w.heap.size + 1) 0 128 := ⟨rangeAt_below c1.1 hb2, there_below c1.2 hb2⟩))
      go_wp2_with fail
      have hR : (w2.setCells (w.heap.size + 1) 0 n).rangeAt (w.heap.size + 1) 0 n := World.rangeAt_setCells_same _ _ _ _ (by rw [hl2]; exact c2.2)
      refine bodyPost_ret (v := .agg (wArr (-x))) (by rw [show wArr (-x) = n.toArray by rw [← hn]; rfl]; exact results_cell_mid rfl _ _ (w.heap.size + 1) n _ rfl hR hu rfl hi2) rfl ⟨rfl, ?_⟩
      exact below_setCells (HBl.out.trans (((Below.refl _ _).drew.trans (hb1.trans (hb2.mono hb1.size))).mono (by show w.heap.size ≤ wr.heap.size; omega))) (by omega) _ _
end Go.Proofs.YtjgpflodbloneaaDoor
