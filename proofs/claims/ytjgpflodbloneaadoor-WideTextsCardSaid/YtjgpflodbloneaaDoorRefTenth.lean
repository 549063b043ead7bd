/- The contract of the document's tenth. -/
import Derived.Test.YtjgpflodbloneaaDoorRefAdd
namespace Go.Proofs.YtjgpflodbloneaaDoor
open Go.RowKit

/-- What a round of tenth knows. -/
def Three (w wr : World) (x : BitVec 128) (f : Nat → Bool) : Prop := Below w.heap.size w wr ∧ w.heap.size + 3 ≤ wr.heap.size ∧ BArr wr w.heap.size (fun i => x.getLsbD i) ∧ BArr wr (w.heap.size + 1) (fun _ => false) ∧ BArr wr (w.heap.size + 1 + 1) f
theorem start3 (w : World) (x : BitVec 128) : Three w ((((w.alloc (.cells (wArr x) 29)).alloc (.cells Tryd.zeroCells29 29)).alloc (.cells Tryd.zeroCells29 29)).setRow (w.heap.size + 1 + 1) Tryd.zeroCells29) x (fun _ => false) := by
  have a1 := BArr.new w (fun i => x.getLsbD i)
  have a3 := BArr.zero (w.alloc (.cells (wArr x) 29))
  have a4 := BArr.zero ((w.alloc (.cells (wArr x) 29)).alloc (.cells Tryd.zeroCells29 29))
  simp only [World.size_alloc] at a3 a4
  refine ⟨?_, by simp, ?_, ?_, ?_⟩
  · exact below_setRow ((((Below.refl _ _).alloc (Nat.le_refl _) _).alloc (by simp) _).alloc (by simp; omega) _) (by omega)
  · exact ((a1.alloc _).alloc _).setRow_other (by omega) _
  · exact (a3.alloc _).setRow_other (by omega) _
  · rw [wZero] at *
    exact a4.setRow _
theorem Three.set {w wr : World} {x : BitVec 128} {f : Nat → Bool} (h : Three w wr x f) {i : Nat} (hi : i < 128) (b : Bool) : Three w (wr.setCell ⟨w.heap.size + 1 + 1, i, none⟩ (.bool b)) x (fun j => if j = i then b else f j) :=
  ⟨h.1.setCell (by show w.heap.size ≤ w.heap.size + 1 + 1; omega) _, by simpa using h.2.1, h.2.2.1.set_other (by omega) _ _, h.2.2.2.1.set_other (by omega) _ _, h.2.2.2.2.set hi b⟩
theorem Three.of {w wr : World} {x : BitVec 128} {f f' : Nat → Bool} (h : Three w wr x f) (e : fArr f = fArr f') : Three w wr x f' := ⟨h.1, h.2.1, h.2.2.1, h.2.2.2.1, h.2.2.2.2.of e⟩

theorem results_cell_tmp {P : Program} {fn : Func} {p q : Tmp} {ty : TypeId} (h : fn.results = #[.cell p ty, .tmp q]) (tmps : Array Value) (w : World) (g : Nat) (t : TypeId) (cs : Array Value) (fr : Nat × Nat) (d : TypeDesc) (v : Value)
    (hp : tmps.getD p undef = .pointer (some ⟨g, 0, none⟩)) (hq : tmps.getD q undef = v) (hg : w.heap[g]? = some (.cells cs t fr))
    (hu : P.underlying ty = some d) (hd : (match d with | .struct _ | .array _ _ => true | _ => false) = true) (hi : (P.info? ty).map (·.size) = some cs.size) :
    (results fn tmps).run P w = .ok (.tuple #[.agg cs, v]) w := by
  have hp' : tmps[p]?.getD undef = .pointer (some ⟨g, 0, none⟩) := by simpa using hp
  have hq' : tmps[q]?.getD undef = v := by simpa using hq
  simp [results, h, hp', hq', asAddr, run_loadVar_row w g t ty cs fr d hg hu hd hi]
set_option maxRecDepth 100000 in
set_option maxHeartbeats 1600000 in
theorem refTenth_any (x : BitVec 128) (w : World) :
    Calls Tryd.prog 21 #[.agg (wArr x)] w fun e w' => e = .returned (.tuple #[.agg (wArr (x / 10#128)), .int .i64 ((x.toNat % 10 : Nat) : Int)]) ∧ Below w.heap.size w w' := by
  generalize hd : x.toNat % 10 = d at *
  have HD := Lib.hid hd
  clear hd
  go_enter Tryd.func21, Tryd.ntmps21
  go_wp2_with (refine wpList_store_row (o := ⟨none, .store 29 (.tmp 4) (.tmp 7), _, _, _, _⟩) rfl 29 _ _ rfl (w.heap.size + 1 + 1) Tryd.zeroCells29 rfl rfl 29 Tryd.zeroCells29 (heap3 _ _ _ _) (by kernel_rfl) rfl wZero_one ?_)
  go_loopw [5, 6] (fun r i wr => ∃ k m : Nat, k ≤ 128 ∧ i = .int .i64 ((k : Int) - 1) ∧ r = .int .i64 m ∧ m < 10 ∧ Hid (m = rF x k) ∧ Hid (Three w wr x (tF x k))) (fun _ i _ => (intOf i + 1).toNat)
  case atStart => exact ⟨128, 0, by omega, rfl, rfl, by omega, Lib.hid (rF_start x).symm, Lib.hid ((start3 w x).of (tF_start _).symm)⟩
  case round =>
    obtain ⟨k, m, hk, rfl, rfl, hm, Hm, K⟩ := hrel
    by_cases hlt : 0 < k
    · obtain ⟨k, rfl⟩ : ∃ j, k = j + 1 := ⟨k - 1, by omega⟩
      have e1 : ((k + 1 : Nat) : Int) - 1 = k := by omega
      rw [e1] at *
      clear e1
      have hk' : k < 128 := by omega
      have c1 := K.out.2.2.1.cell (i := k) hk'
      have c3 := K.out.2.2.2.2.cell (i := k) hk'
      have f3 := K.out.2.2.2.2.frozen k
      have HS := Lib.hid (rF_step x k)
      have HT := Lib.hid (ten_bit x k)
      have H1 := Lib.hid (tF_on x k)
      have H0 := Lib.hid (tF_off x k)
      rw [← Hm.out] at HS HT
      generalize tF x (k + 1) k = o1 at c3
      generalize hb : x.getLsbD k = b at *
      clear hb
      cases b <;> by_cases h5 : 5 ≤ m
      · have hT : (x / 10#128).getLsbD k = true := by rw [HT.out]; simp only [Bool.toNat_false]; exact decide_eq_true (by omega)
        have hS : 2 * m - 10 = rF x k := by rw [HS.out]; simp only [Bool.toNat_false]; omega
        have HT2 := Lib.hid hT
        have HS2 := Lib.hid hS
        have K2 := Lib.hid ((K.out.set hk' true).of (H1.out hT))
        clear hT hS
        go_wp2
        go_roundw
        case rel => exact ⟨k, 2 * m - 10, by omega, by go_num, by first | go_num | (congr 1; omega), by omega, HS2, K2⟩
        case measure => simp [intOf]
      · have hT : (x / 10#128).getLsbD k = false := by rw [HT.out]; simp only [Bool.toNat_false]; exact decide_eq_false (by omega)
        have hS : 2 * m = rF x k := by rw [HS.out]; simp only [Bool.toNat_false]; omega
        have HT2 := Lib.hid hT
        have HS2 := Lib.hid hS
        have K2 := Lib.hid (K.out.of (H0.out hT))
        clear hT hS
        go_wp2
        go_roundw
        case rel => exact ⟨k, 2 * m, by omega, by go_num, by first | go_num | (congr 1; omega), by omega, HS2, K2⟩
        case measure => simp [intOf]
      · have hT : (x / 10#128).getLsbD k = true := by rw [HT.out]; simp only [Bool.toNat_true]; exact decide_eq_true (by omega)
        have hS : 2 * m + 1 - 10 = rF x k := by rw [HS.out]; simp only [Bool.toNat_true]; omega
        have HT2 := Lib.hid hT
        have HS2 := Lib.hid hS
        have K2 := Lib.hid ((K.out.set hk' true).of (H1.out hT))
        clear hT hS
        go_wp2
        go_roundw
        case rel => exact ⟨k, 2 * m + 1 - 10, by omega, by go_num, by first | go_num | (congr 1; omega), by omega, HS2, K2⟩
        case measure => simp [intOf]
      · have hT : (x / 10#128).getLsbD k = false := by rw [HT.out]; simp only [Bool.toNat_true]; exact decide_eq_false (by omega)
        have hS : 2 * m + 1 = rF x k := by rw [HS.out]; simp only [Bool.toNat_true]; omega
        have HT2 := Lib.hid hT
        have HS2 := Lib.hid hS
        have K2 := Lib.hid (K.out.of (H0.out hT))
        clear hT hS
        go_wp2
        go_roundw
        case rel => exact ⟨k, 2 * m + 1, by omega, by go_num, by first | go_num | (congr 1; omega), by omega, HS2, K2⟩
        case measure => simp [intOf]
    · obtain rfl : k = 0 := by omega
      have HB := K.out.2.2.2.2
      have HR := K.out.2.2.2.1
      have hm' : m = d := by rw [Hm.out, rF_end]; exact HD.out
      subst hm'
      go_wp2_with (first | (refine wpList_load_row rfl 29 _ rfl (w.heap.size + 1 + 1) rfl 29 (fArr (tF x 0)) (0, 0) _ HB Tryd.underlying29 rfl (by rw [fArr_size]; kernel_rfl) ?_) | (refine wpList_store_row rfl 29 _ _ rfl (w.heap.size + 1) (fArr (tF x 0)) rfl rfl 29 (fArr fun _ => false) HR (by rw [fArr_size]; kernel_rfl) (by rw [fArr_size, fArr_size]) (fArr_one _) ?_))
      have HR2 := setRow_heap wr (w.heap.size + 1) (fArr fun _ => false) (fArr (tF x 0)) _ (0, 0) HR
      exact bodyPost_ret (v := .tuple #[.agg (wArr (x / 10#128)), .int .i64 (m : Int)]) (by rw [← tF_end]; exact results_cell_tmp rfl _ _ (w.heap.size + 1) _ _ (0, 0) _ _ rfl rfl HR2 Tryd.underlying29 rfl (by rw [fArr_size]; kernel_rfl)) rfl ⟨rfl, below_setRow K.out.1 (by omega)⟩
end Go.Proofs.YtjgpflodbloneaaDoor
