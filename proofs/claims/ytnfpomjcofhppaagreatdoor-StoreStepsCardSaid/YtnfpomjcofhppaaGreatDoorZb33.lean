/- Snapshots that are kept: slices.Delete in front of them; the store's keep. -/
import Derived.Test.YtnfpomjcofhppaaGreatDoorZb32
import Derived.Test.YtnfpomjcofhppaaGreatDoorZb20
namespace Go.Proofs.YtnfpomjcofhppaaGreatDoor
open Go.RowKit

/-- A snapshot: its version, its trees. -/
structure Sn where
  v : Int
  ps : Nat → Ptr
  tr : Nat → Tre
def snC (ca : Ptr) (n cc : Nat) (x : Sn) : List Value := [.slice ca n cc, .int .i64 x.v, .pointer (x.ps 0), .pointer (x.ps 1), .pointer (x.ps 2), .pointer (x.ps 3), .pointer (x.ps 4), .pointer (x.ps 5)]
abbrev zSn : Value := .agg #[.slice none 0 0, .int .i64 0, .pointer none, .pointer none, .pointer none, .pointer none, .pointer none, .pointer none]
theorem sn_info : (Tryz.prog.info? 82).map (fun i => (i.zero, i.size, i.bytes)) = some (some zSn, 8, 80) := by kernel_rfl
theorem sn_el : ElT 94 82 zSn 8 80 := ⟨Tryz.underlying94, info_partsT sn_info, by decide, by decide, by decide⟩
theorem sn_one (ca : Ptr) (n cc : Nat) (x : Sn) : ∀ u ∈ snC ca n cc x, u.oneCell' = true := by
  intro u hu
  simp only [snC, List.mem_cons, List.not_mem_nil, or_false] at hu
  rcases hu with rfl | rfl | rfl | rfl | rfl | rfl | rfl | rfl <;> rfl
theorem sn_len (ca : Ptr) (n cc : Nat) (l : List Sn) : (l.flatMap (snC ca n cc)).length = l.length * 8 := by
  induction l with
  | nil => rfl
  | cons x l ih => rw [List.flatMap_cons, List.length_append, ih]; simp [snC]; omega
theorem sn_zero (w : World) : (zeroValue 82).run Tryz.prog w = .ok zSn w := by kernel_rfl
theorem run_clear_sn (w : World) (b o n c : Nat) (hn : 0 < n) (hc : ∀ j, j < n * 8 → (w.cell? ⟨b, o + j, none⟩).isSome = true) (hf : ∀ j, w.frozen? ⟨b, o + j, none⟩ = false) :
    ∃ vs, vs.length = n * 8 ∧ ∀ ty, (Builtin.clear_ #[94] ty #[.slice (some ⟨b, o, none⟩) n c]).run Tryz.prog w = .ok (.tuple #[]) (w.setCells b o vs) := by
  have hsz : (Builtin.zeroCells zSn.cells n).toList.length = n * 8 := by
    rw [Array.length_toList, size_zeroCells]; rfl
  have hone : ∀ v ∈ (Builtin.zeroCells zSn.cells n).toList, v.oneCell' = true := by
    intro v hv
    have hz : ∀ i, i < 8 → (zSn.cells[i]!).oneCell' = true := by
      intro i hi
      obtain rfl | rfl | rfl | rfl | rfl | rfl | rfl | rfl : i = 0 ∨ i = 1 ∨ i = 2 ∨ i = 3 ∨ i = 4 ∨ i = 5 ∨ i = 6 ∨ i = 7 := by omega
      all_goals rfl
    rw [Array.mem_toList_iff] at hv
    unfold Builtin.zeroCells at hv
    rw [Array.mem_map] at hv
    obtain ⟨i, _, rfl⟩ := hv
    exact hz (i % 8) (Nat.mod_lt _ (by decide))
  have hst := run_storeCells_cells (P := Tryz.prog) b o (Builtin.zeroCells zSn.cells n).toList 0 w (by rw [hsz]; simpa using hc) (by intro j _; simpa using hf j) hone
  simp only [Nat.add_zero] at hst
  obtain ⟨m, rfl⟩ : ∃ m, n = m + 1 := ⟨n - 1, by omega⟩
  refine ⟨_, hsz, fun ty => ?_⟩
  simp [Builtin.clear_, run_underlying Tryz.underlying94, hst]
set_option maxRecDepth 100000 in
set_option maxHeartbeats 6400000 in
theorem delete_sn (g off cap n k : Nat) (xs : List Value) (w : World) (h : Win 8 w (some ⟨g, off, none⟩) cap n xs) (hcap : cap ≠ 0) (hk : k < n) (h1 : ∀ u ∈ xs, u.oneCell' = true) :
    Calls Tryz.prog 49 #[.slice (some ⟨g, off, none⟩) n cap, .int .i64 0, .int .i64 k] w fun e w' => e = .returned (.slice (some ⟨g, off, none⟩) (n - k) cap) ∧ Win 8 w' (some ⟨g, off, none⟩) cap (n - k) (xs.drop (k * 8)) ∧ Only (fun b => b = g) w w' := by
  have hle := h.le
  have hmx := h.max
  have hmx2 : maxLen ≤ 9223372036854775807 := by unfold maxLen; omega
  by_cases hk0 : k = 0
  · subst hk0
    have H := Lib.hid h
    have i1 : (n : Int) ≤ cap := by omega
    have i2 : (0 : Int) ≤ n := by omega
    clear h h1 hk hcap
    go_enter Tryz.func49, Tryz.ntmps49
    go_wp2_with fail
    go_ret
    exact ⟨by simp, by simpa using H.out, Only.refl _ _⟩
  · obtain ⟨m, hm⟩ : ∃ m, m + k = n := ⟨n - k, by omega⟩
    have hlen := h.len
    obtain ⟨news, hnews⟩ : ∃ news, news = xs.drop (k * 8) := ⟨_, rfl⟩
    have hnl : news.length = m * 8 := by rw [hnews, List.length_drop, hlen, ← hm, Nat.add_mul]; omega
    have hn1 : ∀ u ∈ news, u.oneCell' = true := fun u hu => h1 u (by rw [hnews] at hu; exact List.mem_of_mem_drop hu)
    obtain ⟨g', off', e, hc, hs, hf⟩ := h.mem.resolve_left hcap
    cases e
    have hd : Win 8 w.drew (some ⟨g, off, none⟩) cap n xs := h.keepG (grown_drewT (grown_reflT w none))
    have hnx : ∀ j u, news[j]? = some u → w.drew.cell? ((⟨g, off + k * 8, none⟩ : Addr).add j) = some u := fun j u hj => by
      rw [add_atT, Nat.add_assoc]
      rw [hnews, List.getElem?_drop] at hj
      exact hc _ u hj
    have hW1 : Win 8 (w.drew.setCells g (off + 0) news) (some ⟨g, off, none⟩) cap m news := hd.put hcap (by rw [hnl]; have := Nat.mul_le_mul_right 8 (show m ≤ cap by omega); omega) hnl (by omega) (fun j u hj => .inl ⟨Nat.zero_le _, by simpa using hj⟩)
    obtain ⟨W1, hWe⟩ : ∃ W1, W1 = w.drew.setCells g (off + 0 * 8) news := ⟨_, rfl⟩
    have hWe' : W1 = w.drew.setCells g (off + 0) news := by rw [hWe]
    rw [← hWe'] at hW1
    obtain ⟨_, _, e1, hc1, hs1, hf1⟩ := hW1.mem.resolve_left hcap
    cases e1
    obtain ⟨vs, hvl, hcl⟩ := run_clear_sn W1 g (off + m * 8) (n - m) (cap - m) (by omega) (fun j hj => by
      rw [Nat.add_assoc]
      exact hs1 _ (by have := Nat.mul_le_mul_right 8 hle; omega)) (fun j => hf1 _)
    have hfin : Win 8 (W1.setCells g (off + m * 8) vs) (some ⟨g, off, none⟩) cap m news := hW1.put hcap (by rw [hvl]; have := Nat.mul_le_mul_right 8 hle; omega) hnl (by omega) (fun j u hj => .inr ⟨.inl (by have := (List.getElem?_eq_some_iff.1 hj).1; omega), hj⟩)
    have hof : Only (fun b => b = g) w (W1.setCells g (off + m * 8) vs) := by
      refine (Only.trans (M := fun b => b = g) (M' := fun b => g = b) ?_ (only_setCells g vs _ W1) (fun b hb => .inl hb.symm))
      rw [hWe]
      exact ((Only.refl (fun b => b = g) w).drew).trans (only_setCells g news _ w.drew) (fun b hb => .inl hb.symm)
    have HF := Lib.hid (And.intro hfin (And.intro hof hnews))
    have hnmk : n - k = m := by omega
    rw [hnmk]
    have HP := Lib.hid (And.intro hnl (And.intro hn1 (And.intro hnx (fun j (hj : j < news.length) => show (w.drew.cell? ⟨g, off + 0 * 8 + j, none⟩).isSome = true ∧ w.drew.frozen? ⟨g, off + 0 * 8 + j, none⟩ = false from ⟨by
      rw [Nat.zero_mul, Nat.add_zero]
      exact hs j (by rw [hnl] at hj; have := Nat.mul_le_mul_right 8 (show m ≤ cap by omega); omega), hf _⟩))))
    have HWe := Lib.hid hWe
    have hkb : ((0 : Int) == (k : Int)) = false := beq_eq_false_iff_ne.2 (by omega)
    have hcm : (cap = m) = False := by simp; omega
    have i1 : (k : Int) ≤ n := by omega
    have i2 : (n : Int) ≤ cap := by omega
    have i3 : (m : Int) ≤ n := by omega
    have i4 : (0 : Int) ≤ k := by omega
    have i5 : (0 : Int) ≤ cap := by omega
    have i6 : (0 : Int) ≤ n := by omega
    have hmc : 0 + m ≤ cap := by omega
    obtain ⟨i0, hi0, hz0, hz1, hz2⟩ := info_partsT sn_info
    · have hck' : (cap = k) = False := by simp; omega
      clear h h1 hlen hc hs hf hd hnx hW1 hWe' hs1 hf1 hc1 hfin hof hnews hnl hn1 hvl hk hk0 hm hle hcap hWe
      go_enter Tryz.func49, Tryz.ntmps49
      go_wp2_with fail
      go_region_law (refine step_append_room rfl (.tmp 22) (.tmp 25) 94 rfl 82 i0 8 Tryz.underlying94 hi0 hz1 g off 0 cap (by simp [Act.eval, Act.put]) ⟨g, off + k * 8, none⟩ m (cap - k) news (by simp [Act.eval, Act.put]) HP.out.1 HP.out.2.2.1 HP.out.2.1 hmc HP.out.2.2.2 ?_; rw [← HWe.out])
      all_goals
        go_wp2_with fail
        go_ret
        exact ⟨rfl, by rw [← HF.out.2.2]; exact HF.out.1, HF.out.2.1⟩
/-- What keep leaves. -/
def Kept9 (b J : Nat) (sa : Ptr) (n jn : Nat) (xs : List Value) (w : World) (e : Ending) (w' : World) : Prop :=
  e = .returned (.tuple #[]) ∧ (∃ sa' sc', Win 8 w' sa' sc' (jn + 1) (xs.drop ((n - jn) * 8)) ∧ w'.heap[b]? = some (.cells #[.pointer (some ⟨J, 0, none⟩), .slice sa' (jn + 1) sc'] 96 (0, 0)) ∧ (∀ k, bk sa' k → bk sa k ∨ w.heap.size ≤ k)) ∧ Only (fun k => k = b ∨ bk sa k) w w'
abbrev cSn (ca : Ptr) (m cc : Nat) (x : Sn) : Obj := .cells #[.slice ca m cc, .int .i64 x.v, .pointer (x.ps 0), .pointer (x.ps 1), .pointer (x.ps 2), .pointer (x.ps 3), .pointer (x.ps 4), .pointer (x.ps 5)] 82
set_option maxRecDepth 100000 in
set_option maxHeartbeats 12800000 in
theorem keep_any (b J : Nat) (sa ja ca : Ptr) (n sc jn jc m cc : Nat) (room en : Int) (x : Sn) (xs : List Value) (w : World) (hb : w.heap[b]? = some (.cells #[.pointer (some ⟨J, 0, none⟩), .slice sa n sc] 96 (0, 0))) (hj : Jn J w room en ja jn jc) (hw : Win 8 w sa sc n xs) (hx1 : ∀ u ∈ xs, u.oneCell' = true)
    (he : 0 ≤ en) (he2 : en ≤ 1000000000) (hn : n ≤ 1000) (hjn : jn ≤ n) (hnj : n ≤ jn + 1) (hbJ : b ≠ J) (hsb : ¬ bk sa b) (hsJ : ¬ bk sa J) :
    Calls Tryz.prog 27 #[.pointer (some ⟨b, 0, none⟩), .agg #[.slice ca m cc, .int .i64 x.v, .pointer (x.ps 0), .pointer (x.ps 1), .pointer (x.ps 2), .pointer (x.ps 3), .pointer (x.ps 4), .pointer (x.ps 5)]] w (Kept9 b J sa n jn (xs ++ snC ca m cc x) w) := by
  have hbl : b < w.heap.size := (Array.getElem?_eq_some_iff.1 hb).1
  have hJl := hj.lt
  have b0 : w.cell? ⟨b, 0, none⟩ = some (.pointer (some ⟨J, 0, none⟩)) := cell_of_row _ _ 0 _ _ _ hb
  have b1 : w.cell? ⟨b, 1, none⟩ = some (.slice sa n sc) := cell_of_row _ _ 1 _ _ _ hb
  have f1 := froz_of hb 1
  have HW := Lib.hid hw
  have HB := Lib.hid (And.intro hb (And.intro hj (And.intro hx1 (And.intro hsb (And.intro hsJ (And.intro hjn hnj))))))
  have HQ := Lib.hid (And.intro he (And.intro he2 hbJ))
  have A1 := heap_alloc_new w (cSn ca m cc x)
  have g1 := World.grownBy_alloc w (cSn ca m cc x) none
  have G1 := Lib.hid g1
  obtain ⟨w1, hw1⟩ : ∃ w1, w1 = w.alloc (cSn ca m cc x) := ⟨_, rfl⟩
  rw [← hw1] at A1 g1 G1
  have b0' := g1.cell b0 (by simp)
  have b1' := g1.cell b1 (by simp)
  have f1' := (World.frozen?_of_block (a := ⟨b, 1, none⟩) (g1.block b hbl (by simp))).trans f1
  have y0 : w1.cell? ⟨w.heap.size, 0, none⟩ = some (.slice ca m cc) := cell_of_row _ _ 0 _ _ _ A1
  have y1 : w1.cell? ⟨w.heap.size, 1, none⟩ = some (.int .i64 x.v) := cell_of_row _ _ 1 _ _ _ A1
  have y2 : w1.cell? ⟨w.heap.size, 2, none⟩ = some (.pointer (x.ps 0)) := cell_of_row _ _ 2 _ _ _ A1
  have y3 : w1.cell? ⟨w.heap.size, 3, none⟩ = some (.pointer (x.ps 1)) := cell_of_row _ _ 3 _ _ _ A1
  have y4 : w1.cell? ⟨w.heap.size, 4, none⟩ = some (.pointer (x.ps 2)) := cell_of_row _ _ 4 _ _ _ A1
  have y5 : w1.cell? ⟨w.heap.size, 5, none⟩ = some (.pointer (x.ps 3)) := cell_of_row _ _ 5 _ _ _ A1
  have y6 : w1.cell? ⟨w.heap.size, 6, none⟩ = some (.pointer (x.ps 4)) := cell_of_row _ _ 6 _ _ _ A1
  have y7 : w1.cell? ⟨w.heap.size, 7, none⟩ = some (.pointer (x.ps 5)) := cell_of_row _ _ 7 _ _ _ A1
  have b1a := fun o => (World.grownBy_alloc w1 o none).cell b1' (by simp)
  clear hb hj hw hx1 b0 b1 f1 A1 g1 he he2 hsb hsJ hjn hnj hbJ
  go_enter Tryz.func27, Tryz.ntmps27
  go_upto_region 1 with fail
  have hn2 : n ≤ 1000000 := by omega
  have hsn : ([.slice ca m cc, .int .i64 x.v, .pointer (x.ps 0), .pointer (x.ps 1), .pointer (x.ps 2), .pointer (x.ps 3), .pointer (x.ps 4), .pointer (x.ps 5)] : List Value) = snC ca m cc x := rfl
  have HSn := Lib.hid hsn
  clear hsn
  rw [← hw1]
  clear hw1
  go_cut [12] (fun s12 wx => ∃ sa' sc', s12 = .slice sa' (n + 1) sc' ∧ Hid (∃ w2 w4, w.grownBy w2 none ∧ Win 8 w4 sa' sc' (n + 1) (xs ++ snC ca m cc x) ∧ Only (bk sa) w2 w4 ∧ (∀ k, bk sa' k → bk sa k ∨ w2.heap.size ≤ k) ∧ wx = w4.setCell ⟨b, 1, none⟩ (.slice sa' (n + 1) sc')))
  case first =>
    go_region_law (first
      | (refine step_append_win (by rfl) (.tmp 9) (.tmp 11) sn_el (by rfl) (HW.out.keepG (G1.out.trans (grown_drewT (World.grownBy_alloc w1 (cSn ca m cc x) none)))) hn2 (by rfl) ⟨w1.heap.size, 0, none⟩ 1 (by rfl) (snC ca m cc x) rfl (World.news_of_block (heap_alloc_new w1 (cSn ca m cc x))) (sn_one ca m cc x) ?_
         intro sa' sc' w4 hk4 ho4 hb4
         have HG := Lib.hid (G1.out.trans (grown_drewT (World.grownBy_alloc w1 (cSn ca m cc x) none)))
         have hb4b := ho4.block b (Nat.lt_of_lt_of_le hbl HG.out.size) HB.out.2.2.2.1
         have y9 := (World.cell?_of_block (a := ⟨b, 1, none⟩) hb4b).trans ((grown_drewT (World.grownBy_alloc w1 (cSn ca m cc x) none)).cell b1' (by simp))
         have z9 := (World.frozen?_of_block (a := ⟨b, 1, none⟩) hb4b).trans ((World.frozen?_of_block (a := ⟨b, 1, none⟩) ((grown_drewT (World.grownBy_alloc w1 (cSn ca m cc x) none)).block b (Nat.lt_of_lt_of_le hbl G1.out.size) (by simp))).trans f1')
         have E4 := Lib.hid (And.intro hk4 (And.intro ho4 hb4))
         clear hk4 ho4 hb4 hb4b)
      | fail)
    all_goals
      go_wp2_with fail
      go_meet
      obtain ⟨hk4, ho4, hb4⟩ := E4.out
      exact ⟨sa', sc', rfl, Lib.hid ⟨_, w4, HG.out, hk4, ho4, hb4, rfl⟩⟩
  case rest =>
  obtain ⟨sa', sc', rfl, E⟩ := hcut
  obtain ⟨k9, hk9⟩ : ∃ k, k = n - jn := ⟨_, rfl⟩
  have hjnn : jn ≤ n ∧ n ≤ jn + 1 := HB.out.2.2.2.2.2
  have FC : wc.heap[b]? = some (.cells #[.pointer (some ⟨J, 0, none⟩), .slice sa' (n + 1) sc'] 96 (0, 0)) ∧ Jn J wc room en ja jn jc ∧ Win 8 wc sa' sc' (n + 1) (xs ++ snC ca m cc x) ∧ ¬ bk sa' b ∧ (∀ k, bk sa' k → bk sa k ∨ w.heap.size ≤ k) ∧ Only (fun k => k = b ∨ bk sa k) w wc ∧ w.heap.size ≤ wc.heap.size := by
    obtain ⟨w2, w4, hg2, hwin, ho, hbk, hwc⟩ := E.out
    obtain ⟨hb, hj, _, hsb, hsJ, _⟩ := HB.out
    have s2 := hg2.size
    have hnb : ¬ bk sa' b := fun e => by
      rcases hbk b e with e | e
      · exact hsb e
      · omega
    have hob : Only (fun k => k = b) w4 wc := by rw [hwc]; exact Only.one b w4 1 _
    have hb4 : w4.heap[b]? = w.heap[b]? := (ho.block b (by omega) hsb).trans (hg2.block b hbl (by simp))
    have hOO : Only (fun k => k = b ∨ bk sa k) w wc := ((Only.of_none (M := fun k => k = b ∨ bk sa k) hg2).trans ho (fun k hk => .inl (.inr hk))).trans hob (fun k hk => .inl (.inl hk))
    refine ⟨?_, (hob.block J (by have := ho.size; omega) (fun e => HQ.out.2.2 e.symm)).trans ((ho.block J (by omega) hsJ).trans (hj.keep hg2 (by simp))), hwin.keep hob (fun k hk e => hnb (e ▸ hk)), hnb, fun k hk => (hbk k hk).imp id (fun e => by omega), hOO, hOO.size⟩
    rw [hwc]
    simp [World.setCell, Array.getElem?_modify, hb4, hb]
  obtain ⟨hcb, hcj, hcw, hnb, hbk, hOO, hsz⟩ := FC
  have hscp : n + 1 ≤ sc' := hcw.le
  obtain ⟨g, off, hsa, _⟩ := hcw.mem.resolve_left (by omega)
  subst hsa
  have hgb : g ≠ b := fun e => hnb (by rw [bk_some]; exact e)
  have b0 : wc.cell? ⟨b, 0, none⟩ = some (.pointer (some ⟨J, 0, none⟩)) := cell_of_row _ _ 0 _ _ _ hcb
  have b1 : wc.cell? ⟨b, 1, none⟩ = some (.slice (some ⟨g, off, none⟩) (n + 1) sc') := cell_of_row _ _ 1 _ _ _ hcb
  have f1 := froz_of hcb 1
  have hbc : b < wc.heap.size := by omega
  have HE1 := Lib.hid (fun W (hW : wc.grownBy W none) => end_any J W room en ja jn jc (hcj.keep hW (by simp)))
  have HH1 := Lib.hid (fun W (hW : wc.grownBy W none) => horizon_any J W room en ja jn jc (hcj.keep hW (by simp)) HQ.out.1 (by have := HQ.out.2.1; omega) (by omega))
  have HDl := Lib.hid (fun W (hW : wc.grownBy W none) => delete_sn g off sc' (n + 1) k9 (xs ++ snC ca m cc x) W (hcw.keepG hW) (by omega) (by omega) (fun u hu => by
    rcases List.mem_append.1 hu with hu | hu
    · exact HB.out.2.2.1 u hu
    · exact sn_one ca m cc x u hu))
  have Z := Lib.hid (And.intro hk9 (And.intro hbk (And.intro hOO (And.intro hcb hsz))))
  have e1 : IntKind.i64.wrap (en - (en - (jn : Int))) = (jn : Int) := by rw [IntKind.wrap_i64]; omega
  have e2 : IntKind.i64.wrap (k9 : Int) = (k9 : Int) := by rw [IntKind.wrap_i64]; omega
  have e3 : (n : Int) + 1 - ((jn : Int) + 1) = (k9 : Int) := by omega
  have hjn3 : jn ≤ 1000 := by omega
  clear hcb hcj hcw hnb hbk hOO hsz E y0 y1 y2 y3 y4 y5 y6 y7 b0' b1' f1' b1a hk9 hjnn
  go_upto_region 2 with fail
  go_cut [4] (fun s4 wx => s4 = .int .i64 ((jn : Int) + 1) ∧ Hid (∃ k, wx = wc.drewN k))
  case first =>
    have Q1 := Lib.hid (fun k => (HE1.out (wc.drewN k) (grown_drewNT (grown_reflT wc none) k)).mono fun e w' h => show e = .returned (.int .i64 en) ∧ w' = wc.drewN k from ⟨h.1, h.2.symm⟩)
    have Q2 := Lib.hid (fun k => HH1.out (wc.drewN k) (grown_drewNT (grown_reflT wc none) k))
    go_quiet (first
      | (go_at_call 48; with_reducible exact Calls.quiet_of_same (Q1.out _))
      | (go_at_call 28; with_reducible exact Calls.quiet_of (Q2.out _)))
    go_wp2_with fail
    go_meet
    exact ⟨rfl, Lib.hid ⟨_, rfl⟩⟩
  case rest =>
  obtain ⟨rfl, E2⟩ := hcut
  rename World => wy
  have hgy : wc.grownBy wy none := by
    obtain ⟨k, rfl⟩ := E2.out
    exact grown_drewNT (grown_reflT wc none) k
  have c0 := hgy.cell b0 (by simp)
  have c1 := hgy.cell b1 (by simp)
  have h1 := (World.frozen?_of_block (a := ⟨b, 1, none⟩) (hgy.block b hbc (by simp))).trans f1
  have Gy := Lib.hid hgy
  have C6 := Lib.hid (grown_drewT hgy)
  have hby : b < wy.heap.size := Nat.lt_of_lt_of_le hbc hgy.size
  clear hgy b0 b1 f1 E2 HE1 HH1
  go_wp2_with fail
  go_region_with (go_at_call 49; (with_reducible refine (HDl.out _ (by first | exact C6.out | exact Gy.out)).mono ?_); rintro e w6 ⟨rfl, hw6, ho6⟩; have E6 := Lib.hid (And.intro hw6 ho6); have v1 := ho6.cell (b := b) (o := 1) (show wy.drew.cell? ⟨b, 1, none⟩ = some _ from c1) (fun e => hgb e.symm); have v2 := (World.frozen?_of_block (a := ⟨b, 1, none⟩) (ho6.block b hby (fun e => hgb e.symm))).trans h1; clear hw6 ho6)
  all_goals
    go_wp2_with fail
    go_end0
    obtain ⟨hk9, hbk, hOO, hcb, hsz⟩ := Z.out
    obtain ⟨hw6, ho6⟩ := E6.out
    have hlen : n + 1 - k9 = jn + 1 := by have := HB.out.2.2.2.2.2; omega
    rw [hlen] at hw6 ⊢
    rw [hk9] at hw6
    have hob : Only (fun k => k = b) w6 (w6.setCell ⟨b, 1, none⟩ (.slice (some ⟨g, off, none⟩) (jn + 1) sc')) := Only.one b w6 1 _
    have hb6 : w6.heap[b]? = some (.cells #[.pointer (some ⟨J, 0, none⟩), .slice (some ⟨g, off, none⟩) (n + 1) sc'] 96 (0, 0)) := (ho6.block b hby (fun e => hgb e.symm)).trans ((Gy.out.block b hbc (by simp)).trans hcb)
    refine ⟨rfl, ⟨some ⟨g, off, none⟩, sc', hw6.keep hob (fun k hk e => by rw [bk_some] at hk; exact hgb (hk.trans e)), ?_, hbk⟩, ?_⟩
    · simp [World.setCell, Array.getElem?_modify, hb6]
    · refine ((hOO.trans (Only.of_none (M := fun _ => False) C6.out) (fun _ h => h.elim)).trans ho6 (fun k hk => ?_)).trans hob (fun k hk => .inl (.inl hk))
      rcases hbk k (by rw [bk_some]; exact hk.symm) with e | e
      · exact .inl (.inr e)
      · exact .inr e
end Go.Proofs.YtnfpomjcofhppaaGreatDoor
