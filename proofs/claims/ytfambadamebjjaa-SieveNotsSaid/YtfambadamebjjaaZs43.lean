import Derived.Test.YtfambadamebjjaaZs19
import Derived.Test.YtfambadamebjjaaZs38
import Derived.Test.YtfambadamebjjaaZs35
import Derived.Test.YtfambadamebjjaaZs42
set_option linter.unusedSimpArgs false
set_option linter.unusedVariables false
namespace Go.Proofs.Ytfambadamebjjaa
open Go.RowKit
set_option linter.unusedVariables false
set_option linter.unusedSimpArgs false
theorem ptP_info : (Try.prog.info? 112).map (fun i => (i.zero, i.size, i.bytes)) = some (some (.pointer none), 1, 8) := by kernel_rfl
theorem ptP_el : ElT 70 112 (.pointer none) 1 8 := ⟨Try.underlying70, info_partsT ptP_info, by decide, by decide, by decide⟩
abbrev pv (p : Addr × Pm) : Value := .pointer (some p.1)
instance : Inhabited (Addr × Pm) := ⟨(⟨0, 0, none⟩, default)⟩
theorem pv_len (l : List (Addr × Pm)) : (l.map pv).length = l.length * 1 := by rw [List.length_map, Nat.mul_one]
theorem pv_at (l : List (Addr × Pm)) {i : Nat} (hi : i < l.length) : (l.map pv)[i]? = some (.pointer (some (l.getD i default).1)) := by
 rw [List.getElem?_map, List.getElem?_eq_getElem hi, List.getD, List.getElem?_eq_getElem hi]; rfl
def TurnP (l cur : List (Addr × Pm)) (i : Nat) : Prop := cur.length = l.length ∧ ∀ t, t < l.length → cur.getD t default = if t < i ∨ l.length ≤ t + i then l.getD (l.length - 1 - t) default else l.getD t default
theorem TurnP.start (l : List (Addr × Pm)) : TurnP l l 0 := ⟨rfl, fun t ht => by rw [if_neg (by omega)]⟩
theorem TurnP.all {l cur : List (Addr × Pm)} {i : Nat} (h : TurnP l cur i) (hi : l.length ≤ 2 * i + 1) : cur = l.reverse := by
 refine List.ext_getElem (by rw [h.1, List.length_reverse]) fun t h1 h2 => ?_
 have ht : t < l.length := by rw [← h.1]; exact h1
 have := h.2 t ht
 rw [List.getD_eq_getElem?_getD, List.getElem?_eq_getElem h1, Option.getD_some] at this
 rw [this, List.getElem_reverse]
 split
 ·rw [List.getD_eq_getElem?_getD, List.getElem?_eq_getElem (by omega), Option.getD_some]
 ·have e : t = l.length - 1 - t := by omega
  rw [List.getD_eq_getElem?_getD, List.getElem?_eq_getElem ht, Option.getD_some]
  congr 1
theorem TurnP.step {l cur : List (Addr × Pm)} {i : Nat} (h : TurnP l cur i) (hi : 2 * i + 1 < l.length) : TurnP l ((cur.set i (cur.getD (l.length - 1 - i) default)).set (l.length - 1 - i) (cur.getD i default)) (i + 1) := by
 refine ⟨by simp [h.1], fun t ht => ?_⟩
 rw [getD_set _ _ _ _ (by rw [List.length_set, h.1]; omega), getD_set _ _ _ _ (by rw [h.1]; omega)]
 have e1 := h.2 (l.length - 1 - i) (by omega)
 have e2 := h.2 i (by omega)
 rw [if_neg (by omega)] at e1 e2
 by_cases a : l.length - 1 - i = t
 ·rw [if_pos a, e2, if_pos (by omega)]
  congr 1; omega
 ·rw [if_neg a]
  by_cases b : i = t
  ·rw [if_pos b, e1, if_pos (by omega), b]
  ·rw [if_neg b, h.2 t ht]
   by_cases c : t < i ∨ l.length ≤ t + i
   ·rw [if_pos c, if_pos (by omega)]
   ·rw [if_neg c, if_neg (by omega)]
theorem Win.setP {w : World} {g off cap n : Nat} {l : List (Addr × Pm)} (h : Win 1 w (some ⟨g, off, none⟩) cap n (l.map pv)) (hn : n = l.length) (p : Nat) (hp : p < n) (x : Addr × Pm) : Win 1 (w.setCell ⟨g, off + p, none⟩ (pv x)) (some ⟨g, off, none⟩) cap n ((l.set p x).map pv) := by
 have hle := h.le
 refine h.put (vs := [pv x]) (o := p) (by omega) (by simp; omega) (by rw [pv_len, List.length_set, ← hn]) hle (fun j u hj => ?_)
 rw [List.map_set, List.getElem?_set] at hj
 by_cases e : p = j
 ·subst e
  left
  rw [if_pos rfl, List.length_map, if_pos (by omega)] at hj
  exact ⟨Nat.le_refl _, by rw [Nat.sub_self]; simpa using hj⟩
 ·right
  rw [if_neg e] at hj
  exact ⟨by simp; omega, hj⟩
set_option maxRecDepth 100000 in
set_option maxHeartbeats 3200000 in
theorem reverseP_any (l : List (Addr × Pm)) (a : Option Addr) (cap n : Nat) (w : World) (h : Win 1 w a cap n (l.map pv)) (hn : n = l.length) :
  Calls Try.prog 47 #[.slice a n cap] w fun e w' => e = .returned (.tuple #[]) ∧ Win 1 w' a cap n (l.reverse.map pv) ∧ Only (bk a) w w' := by
 have hmax := h.max
 have hle := h.le
 unfold maxLen at hmax
 have H0 : Hid (∃ cur, TurnP l cur 0 ∧ Win 1 w a cap n (cur.map pv) ∧ Only (bk a) w w) := Lib.hid ⟨l, TurnP.start l, h, Only.refl _ _⟩
 have HN := Lib.hid hn
 clear h hn
 go_enter Try.func47, Try.ntmps47
 go_wp2_with fail
 go_loopw [2, 3] (fun s2 s3 wr => ∃ (i : Nat) (j : Int), s2 = .int .i64 i ∧ s3 = .int .i64 j ∧ i ≤ n ∧ j + i ≤ (n : Int) - 1 ∧ (n : Int) - 1 ≤ j + i ∧ Hid (∃ cur, TurnP l cur i ∧ Win 1 wr a cap n (cur.map pv) ∧ Only (bk a) w wr)) (fun s2 _ _ => n - (intOf s2).toNat)
 case atStart => exact ⟨0, (n : Int) - 1, rfl, by go_num, by omega, by omega, by omega, H0⟩
 case round =>
  obtain ⟨i, j, rfl, rfl, hi, hj1, hj2, Q⟩ := hrel
  by_cases hlt : (i : Int) < j
  ·obtain ⟨jn, rfl⟩ : ∃ jn : Nat, j = jn := ⟨j.toNat, by omega⟩
   have hin : (i : Int) < n := by omega
   have hjn : (jn : Int) < n := by omega
   have hi0 : (0 : Int) ≤ i := by omega
   have hj0 : (0 : Int) ≤ jn := by omega
   obtain ⟨cur, hT, hW, hO⟩ := Q.out
   obtain ⟨g, off, rfl, hc, hs, hf⟩ := hW.mem.resolve_left (by omega)
   have hcl : n = cur.length := by rw [hT.1]; exact HN.out
   have c1 := hc i _ (pv_at cur (by omega))
   have c2 := hc jn _ (pv_at cur (by omega))
   have WA := Lib.hid ((hW.keepG (grown_drewT (grown_reflT wr none))).setP hcl i (by omega) (cur.getD jn default))
   have WB := Lib.hid (WA.out.setP (by rw [List.length_set]; exact hcl) jn (by omega) (cur.getD i default))
   have C2' : Hid (wr.cell? ⟨g, off + jn, none⟩ = some (.pointer (some (cur.getD jn default).1))) := Lib.hid c2
   have d1 : wr.drew.cell? ⟨g, off + i, none⟩ = some (.pointer (some (cur.getD i default).1)) := c1
   have f1 : wr.drew.frozen? ⟨g, off + i, none⟩ = false := hf _
   obtain ⟨g', off', e', hc', hs', hf'⟩ := WA.out.mem.resolve_left (by omega)
   cases e'
   have d2' : ∃ v, (wr.drew.setCell ⟨g, off + i, none⟩ (pv (cur.getD jn default))).cell? ⟨g, off + jn, none⟩ = some v := Option.isSome_iff_exists.1 (hs' jn (by omega))
   have f2' : (wr.drew.setCell ⟨g, off + i, none⟩ (pv (cur.getD jn default))).frozen? ⟨g, off + jn, none⟩ = false := hf' _
   obtain ⟨v2, d2⟩ := d2'
   have W2 : Hid ((wr.drew.setCell ⟨g, off + i, none⟩ (.pointer (some (cur.getD jn default).1))).cell? ⟨g, off + jn, none⟩ = some v2 ∧ (wr.drew.setCell ⟨g, off + i, none⟩ (.pointer (some (cur.getD jn default).1))).frozen? ⟨g, off + jn, none⟩ = false) := Lib.hid ⟨d2, f2'⟩
   have HT2 : Hid (TurnP l ((cur.set i (cur.getD jn default)).set jn (cur.getD i default)) (i + 1)) := Lib.hid (by
    have := hT.step (by rw [← HN.out]; omega)
    rw [show l.length - 1 - i = jn by rw [← HN.out]; omega] at this
    exact this)
   have HO2 : Hid (Only (bk (some ⟨g, off, none⟩)) w ((wr.drew.setCell ⟨g, off + i, none⟩ (pv (cur.getD jn default))).setCell ⟨g, off + jn, none⟩ (pv (cur.getD i default)))) := Lib.hid (((hO.trans (.of_none (M := fun _ => False) (grown_drewT (grown_reflT wr none))) (fun _ h => h.elim)).set (.inl ((bk_some _ _ _ _).2 rfl)) _ _).set (.inl ((bk_some _ _ _ _).2 rfl)) _ _)
   have HR2 : Hid (∃ cur', TurnP l cur' (i + 1) ∧ Win 1 ((wr.drew.setCell ⟨g, off + i, none⟩ (.pointer (some (cur.getD jn default).1))).setCell ⟨g, off + jn, none⟩ (.pointer (some (cur.getD i default).1))) (some ⟨g, off, none⟩) cap n (cur'.map pv) ∧ Only (bk (some ⟨g, off, none⟩)) w ((wr.drew.setCell ⟨g, off + i, none⟩ (.pointer (some (cur.getD jn default).1))).setCell ⟨g, off + jn, none⟩ (.pointer (some (cur.getD i default).1)))) := Lib.hid ⟨_, HT2.out, WB.out, HO2.out⟩
   clear hT hW hO hc hs hf hcl hc' hs' hf' Q H0 WA WB HT2 HO2 c1 c2 d2 f2'
   obtain ⟨x, hx⟩ : ∃ x, x = (cur.getD i default).1 := ⟨_, rfl⟩
   obtain ⟨y, hy⟩ : ∃ y, y = (cur.getD jn default).1 := ⟨_, rfl⟩
   rw [← hx] at d1 HR2
   rw [← hy] at W2 HR2 C2'
   have C2 := C2'
   clear C2'
   have d3 : wr.drew.cell? ⟨g, off + jn, none⟩ = some (.pointer (some y)) := C2.out
   have C3 := Lib.hid d3
   clear hx hy C2
   go_upto_region 3 with fail
   refine wp_region_held_drew (S := (fun _ => True)) (by kernel_rfl) trivial (fun hHeld => ?_)
   generalize wr.drew = wd at *
   refine TKB (i := 0) (v := ?vaz) rfl ?yaz ?raz
   case yaz => (intro w hSw; (try dsimp only at hSw); go_simp; try with_reducible rfl)
   simp only [Act.put, List.getElem_toArray, List.getElem_cons_zero, List.size_toArray, List.length_cons, List.length_nil, Nat.reduceAdd, Array.replicate, List.replicate, List.setIfInBounds_toArray, List.set_cons_zero, List.set_cons_succ]
   refine TKB (i := 1) (v := ?vbz) rfl ?ybz ?rbz
   case ybz => (intro w hSw; (try dsimp only at hSw); go_simp; try with_reducible rfl)
   simp only [Act.put, List.getElem_toArray, List.getElem_cons_succ, List.getElem_cons_zero, List.setIfInBounds_toArray, List.set_cons_zero, List.set_cons_succ]
   refine TKB (i := 2) (v := ?vcz) rfl ?ycz ?rcz
   case ycz => (intro w hSw; (try dsimp only at hSw); go_simp; try with_reducible rfl)
   simp only [Act.put, List.getElem_toArray, List.getElem_cons_succ, List.getElem_cons_zero, List.setIfInBounds_toArray, List.set_cons_zero, List.set_cons_succ]
   refine TKB (i := 3) (v := ?vdz) rfl ?ydz ?rdz
   case ydz => (intro w hSw; (try dsimp only at hSw); go_simp; try with_reducible rfl)
   simp only [Act.put, List.getElem_toArray, List.getElem_cons_succ, List.getElem_cons_zero, List.setIfInBounds_toArray, List.set_cons_zero, List.set_cons_succ]
   refine TKB (i := 4) (v := ?vez) rfl ?yez ?rez
   case yez => (intro w hSw; (try dsimp only at hSw); go_simp; try with_reducible rfl)
   simp only [Act.put, List.getElem_toArray, List.getElem_cons_succ, List.getElem_cons_zero, List.setIfInBounds_toArray, List.set_cons_zero, List.set_cons_succ]
   refine TKB (i := 5) (v := ?vfz) rfl ?yfz ?rfz
   case yfz => (intro w hSw; (try dsimp only at hSw); go_simp; try with_reducible rfl)
   simp only [Act.put, List.getElem_toArray, List.getElem_cons_succ, List.getElem_cons_zero, List.setIfInBounds_toArray, List.set_cons_zero, List.set_cons_succ]
   refine TKB (i := 6) (v := ?vgz) rfl ?ygz ?rgz
   case ygz => (intro w hSw; (try dsimp only at hSw); go_simp; try with_reducible rfl)
   simp only [Act.put, List.getElem_toArray, List.getElem_cons_succ, List.getElem_cons_zero, List.setIfInBounds_toArray, List.set_cons_zero, List.set_cons_succ]
   refine TKB (i := 8) (v := ?vhz) rfl ?yhz ?rhz
   case yhz => (intro w hSw; (try dsimp only at hSw); go_simp; try with_reducible rfl)
   simp only [Act.put, List.getElem_toArray, List.getElem_cons_succ, List.getElem_cons_zero, List.setIfInBounds_toArray, List.set_cons_zero, List.set_cons_succ]
   refine TKB (i := 9) (v := ?viz) rfl ?yiz ?riz
   case yiz => (intro w hSw; (try dsimp only at hSw); go_simp; try with_reducible rfl)
   simp only [Act.put, List.getElem_toArray, List.getElem_cons_succ, List.getElem_cons_zero, List.setIfInBounds_toArray, List.set_cons_zero, List.set_cons_succ]
   refine TKB (i := 10) (v := ?vjz) rfl ?yjz ?rjz
   case yjz => (intro w hSw; (try dsimp only at hSw); go_simp; try with_reducible rfl)
   simp only [Act.put, List.getElem_toArray, List.getElem_cons_succ, List.getElem_cons_zero, List.setIfInBounds_toArray, List.set_cons_zero, List.set_cons_succ]
   refine wpAnyH_ready (rs := [7, 11]) (by kernel_rfl) (by simp) ?_
   refine (AllReadyH.cons rfl (fun K' hK => ?_) (AllReadyH.cons rfl (fun K' hK => ?_) AllReadyH.nil))
   ·go_simp
    skip
    refine hK.out _ _ trivial (fun hHeld => ?_)
    clear hK K'
    simp only [List.setIfInBounds_toArray, List.set_cons_zero, List.set_cons_succ]
    refine RD1 (i := 11) rfl (fun K' hK => ?_)
    go_simp
    skip
    refine hK.out _ _ trivial (fun hHeld => ?_)
    clear hK K'
    simp only [List.setIfInBounds_toArray, List.set_cons_zero, List.set_cons_succ]
    refine TKB (i := 12) (v := ?vkz) rfl ?ykz ?rkz
    case ykz => (intro w hSw; (try dsimp only at hSw); go_simp; try with_reducible rfl)
    simp only [Act.put, List.getElem_toArray, List.getElem_cons_succ, List.getElem_cons_zero, List.setIfInBounds_toArray, List.set_cons_zero, List.set_cons_succ]
    refine RD1 (i := 13) rfl (fun K' hK => ?_)
    go_simp
    obtain ⟨w2, hw2⟩ : ∃ w2, w2 = wd.setCell ⟨g, off + i, none⟩ (.pointer (some y)) := ⟨_, rfl⟩
    have g2 := W2.out
    rw [← hw2] at g2 ⊢
    have Hw2 := Lib.hid hw2
    clear hw2
    refine hK.out _ _ trivial (fun hHeld => ?_)
    clear hK K'
    simp only [List.setIfInBounds_toArray, List.set_cons_zero, List.set_cons_succ]
    refine TKB (i := 14) (v := ?vlz) rfl ?ylz ?rlz
    case ylz => (intro w hSw; (try dsimp only at hSw); go_simp; try with_reducible rfl)
    simp only [Act.put, List.getElem_toArray, List.getElem_cons_succ, List.getElem_cons_zero, List.setIfInBounds_toArray, List.set_cons_zero, List.set_cons_succ]
    refine RD1 (i := 15) rfl (fun K' hK => ?_)
    go_simp
    skip
    refine hK.out _ _ trivial (fun hHeld => ?_)
    clear hK K'
    simp only [List.setIfInBounds_toArray, List.set_cons_zero, List.set_cons_succ]
    refine wpAnyH_done (by kernel_rfl) ?_ _
    go_wp2_with fail
    go_roundw
    case rel => exact ⟨i + 1, (jn : Int) - 1, by go_num, by go_num, by omega, by omega, by omega, Lib.hid (by rw [Hw2.out]; exact HR2.out)⟩
    case measure => simp [intOf]; omega
   ·go_simp
    skip
    refine hK.out _ _ trivial (fun hHeld => ?_)
    clear hK K'
    simp only [List.setIfInBounds_toArray, List.set_cons_zero, List.set_cons_succ]
    refine RD1 (i := 7) rfl (fun K' hK => ?_)
    go_simp
    skip
    refine hK.out _ _ trivial (fun hHeld => ?_)
    clear hK K'
    simp only [List.setIfInBounds_toArray, List.set_cons_zero, List.set_cons_succ]
    refine TKB (i := 12) (v := ?vmz) rfl ?ymz ?rmz
    case ymz => (intro w hSw; (try dsimp only at hSw); go_simp; try with_reducible rfl)
    simp only [Act.put, List.getElem_toArray, List.getElem_cons_succ, List.getElem_cons_zero, List.setIfInBounds_toArray, List.set_cons_zero, List.set_cons_succ]
    refine RD1 (i := 13) rfl (fun K' hK => ?_)
    go_simp
    obtain ⟨w2, hw2⟩ : ∃ w2, w2 = wd.setCell ⟨g, off + i, none⟩ (.pointer (some y)) := ⟨_, rfl⟩
    have g2 := W2.out
    rw [← hw2] at g2 ⊢
    have Hw2 := Lib.hid hw2
    clear hw2
    refine hK.out _ _ trivial (fun hHeld => ?_)
    clear hK K'
    simp only [List.setIfInBounds_toArray, List.set_cons_zero, List.set_cons_succ]
    refine TKB (i := 14) (v := ?vnz) rfl ?ynz ?rnz
    case ynz => (intro w hSw; (try dsimp only at hSw); go_simp; try with_reducible rfl)
    simp only [Act.put, List.getElem_toArray, List.getElem_cons_succ, List.getElem_cons_zero, List.setIfInBounds_toArray, List.set_cons_zero, List.set_cons_succ]
    refine RD1 (i := 15) rfl (fun K' hK => ?_)
    go_simp
    skip
    refine hK.out _ _ trivial (fun hHeld => ?_)
    clear hK K'
    simp only [List.setIfInBounds_toArray, List.set_cons_zero, List.set_cons_succ]
    refine wpAnyH_done (by kernel_rfl) ?_ _
    go_wp2_with fail
    go_roundw
    case rel => exact ⟨i + 1, (jn : Int) - 1, by go_num, by go_num, by omega, by omega, by omega, Lib.hid (by rw [Hw2.out]; exact HR2.out)⟩
    case measure => simp [intOf]; omega
  ·obtain ⟨cur, hT, hW, hO⟩ := Q.out
   have HF := Lib.hid (show cur = l.reverse from hT.all (by rw [← HN.out]; omega))
   have HE := Lib.hid (And.intro hW hO)
   clear hT hW hO Q H0
   go_wp2_with fail
   go_end0
   have hE := HE.out.1
   rw [HF.out, List.map_reverse] at hE
   exact ⟨rfl, hE, HE.out.2⟩
theorem two_of {w : World} {b : Nat} {v0 v1 : Value} {T : TypeId} (h : w.heap[b]? = some (.cells #[v0, v1] T (0, 0))) : (w.cell? ⟨b, 0, none⟩ = some v0 ∧ w.cell? ⟨b, 1, none⟩ = some v1) ∧ w.frozen? ⟨b, 0, none⟩ = false ∧ w.frozen? ⟨b, 1, none⟩ = false := by
 have c0 := cell_of_row _ _ 0 _ _ _ h
 have c1 := cell_of_row _ _ 1 _ _ _ h
 simp at c0 c1
 exact ⟨⟨c0, c1⟩, frozen_of_row _ _ 0 _ _ h, frozen_of_row _ _ 1 _ _ h⟩
theorem set2 {w : World} {b : Nat} {v0 v1 u0 u1 : Value} {T : TypeId} (h : w.heap[b]? = some (.cells #[v0, v1] T (0, 0))) : ((w.setCell ⟨b, 0, none⟩ u0).setCell ⟨b, 1, none⟩ u1).heap[b]? = some (.cells #[u0, u1] T (0, 0)) := by
 have h0 := heap_setCell_same _ _ 0 _ _ u0 h
 have h1 := heap_setCell_same _ _ 1 _ _ u1 h0
 simpa using h1
theorem MapC.keptS {W W' : World} {b : Nat} {cs : List Cl} (h : MapC W b cs) {row : Option Nat} (hg : W.grownBy W' row) (hr : ∀ r, row = some r → ∃ c T fr, W.heap[r]? = some (.cells c T fr)) : MapC W' b cs := by
 obtain ⟨n, D, h1, h2⟩ := h
 refine ⟨n, D, h1.kept hg (fun e => ?_), h2⟩
 obtain ⟨es, clock, hb, _⟩ := h1
 obtain ⟨c, T, fr, hc⟩ := hr b e.symm
 rw [hb] at hc; cases hc
def PtAt (B : Nat) (w : World) (p : Addr × Pm) : Prop := ∃ b off, p.1 = ⟨b, off, none⟩ ∧ b < B ∧ w.rangeAt b off p.2.c
theorem PtAt.keep {B : Nat} {w w' : World} {p : Addr × Pm} (h : PtAt B w p) {row : Option Nat} (hg : w.grownBy w' row) (hr : ∀ r, row = some r → B ≤ r) : PtAt B w' p := by
 obtain ⟨b, off, e, hb, hc⟩ := h
 exact ⟨b, off, e, hb, fun j u hj => hg.cell (hc j u hj) (fun e => by have := hr b e.symm; omega)⟩
theorem PtAt.mono {B B' : Nat} {w : World} {p : Addr × Pm} (h : PtAt B w p) (hB : B ≤ B') : PtAt B' w p := by
 obtain ⟨b, off, e, hb, hc⟩ := h
 exact ⟨b, off, e, by omega, hc⟩
abbrev snds (l : List (Addr × Pm)) : List Pm := l.map (·.2)
structure Lay (w0 w W : World) (X : Pm) (S : Nat → Prop) (st out : List (Addr × Pm)) (a b : Ptr) (cap cap2 : Nat) : Prop where
 eq : Pm.allsL (snds st) ++ (snds out).reverse = X.alls
 left : Win 1 W a cap st.length (st.map pv)
 ou : Win 1 W b cap2 out.length (out.map pv)
 la : ∀ k, bk a k → w.heap.size ≤ k
 lb : ∀ k, bk b k → w.heap.size ≤ k
 ap : ∀ k, bk a k → ¬ bk b k
 g : w.grownBy W none
 pt : ∀ p ∈ st, PtAt (w0.heap.size + 2) w p ∧ PmS S w0 p.2
 po : ∀ p ∈ out, PtAt (w0.heap.size + 2) w p
theorem Lay.few {w0 w W : World} {X : Pm} {S : Nat → Prop} {st out : List (Addr × Pm)} {a b : Ptr} {cap cap2 : Nat} (h : Lay w0 w W X S st out a b cap cap2) : st.length ≤ X.n ∧ Pm.ns (snds st) ≤ X.n ∧ out.length + Pm.ns (snds st) = X.n := by
 have h1 := congrArg List.length h.eq
 rw [List.length_append, List.length_reverse, Pm.allsL_n, Pm.alls_n] at h1
 have h2 := len_nsS (snds st)
 simp only [List.length_map] at h1 h2
 omega
theorem ns_appS : ∀ l m : List Pm, Pm.ns (l ++ m) = Pm.ns l + Pm.ns m
 | [], m => by simp [Pm.ns]
 | x :: l, m => by rw [List.cons_append, Pm.ns, Pm.ns, ns_appS l m]; omega
def kidsA (x : Pm) (b off : Nat) : List (Addr × Pm) := (x.kids.zipIdx).map fun p => (⟨b, off + p.2 * 10, none⟩, p.1)
theorem kidsA_len (x : Pm) (b off : Nat) : (kidsA x b off).length = x.kids.length := by simp [kidsA]
theorem kidsA_snd (x : Pm) (b off : Nat) : snds (kidsA x b off) = x.kids := by
 simp only [kidsA, snds, List.map_map]
 exact List.ext_getElem (by simp) (fun i h1 h2 => by simp)
theorem kidsA_take (x : Pm) (b off : Nat) {k : Nat} (hk : k < x.kids.length) : (kidsA x b off).take (k + 1) = (kidsA x b off).take k ++ [(⟨b, off + k * 10, none⟩, x.kids.getD k default)] := by
 rw [List.take_add_one, List.getElem?_eq_getElem (by rw [kidsA_len]; exact hk)]
 simp [kidsA, List.getD, hk]
theorem kidsA_at {S : Nat → Prop} {w0 w : World} {x : Pm} (hg : w0.grownBy w none) (hx : PmS S w0 x) {b off : Nat} (hb : b < w0.heap.size) (hc : ∀ j u, (x.kids.flatMap Pm.c)[j]? = some u → w0.cell? ⟨b, off + j, none⟩ = some u) : ∀ p ∈ kidsA x b off, PtAt (w0.heap.size + 2) w p ∧ PmS S w0 p.2 := by
 intro p hp
 obtain ⟨⟨y, i⟩, hm, rfl⟩ := List.mem_map.1 hp
 have h1 := List.mem_zipIdx hm
 have hi : i < x.kids.length := by omega
 have hy : y = x.kids.getD i default := by rw [List.getD, List.getElem?_eq_getElem hi, h1.2.2]; simp
 subst hy
 refine ⟨⟨b, off + i * 10, rfl, by omega, fun j u hj => ?_⟩, ?_⟩
 ·rw [Nat.add_assoc]; exact hg.cell (hc _ _ (pm_at x.kids i hi j u hj)) (by simp)
 ·have h2 : PmSs S w0 x.kids := by cases x; exact hx.2.2.2.2
  exact (PmSs_iff _).1 h2 _ (by rw [List.getD, List.getElem?_eq_getElem hi]; exact List.getElem_mem _)
structure Push (w1 W : World) (xs out : List (Addr × Pm)) (m' k m : Nat) (a : Ptr) (c : Nat) (b : Ptr) (cap2 : Nat) : Prop where
 g : w1.grownBy W none
 left : Win 1 W a c (m' + k) (xs.map pv)
 la : ∀ j, bk a j → w1.heap.size ≤ j
 ou : Win 1 W b cap2 m (out.map pv)
 ap : ∀ j, bk a j → ¬ bk b j
set_option maxRecDepth 100000 in
set_option maxHeartbeats 12800000 in
theorem laid_any (TN : ByteArray) (ta : Option Addr) (tcap : Nat) (cs : List Cl) (TK : Int) (S : Nat → Prop) (X : Pm) (w : World) (hC : ColsAt w.heap.size w ta cs) (hs : ∀ c ∈ cs, c.n.size ≤ maxLen) (hl : cs.length ≤ 100000) (hX : PmS S w X) (hn : X.n ≤ 100000) :
  Calls Try.prog 26 #[.agg #[.string TN, .slice ta cs.length tcap, .int .i64 TK], X.v] w fun e w' => (∃ mb pb pcap ps, e = .returned (.agg #[.map (some mb), .slice pb ps.length pcap]) ∧ snds ps = X.alls ∧ MapC w' mb cs ∧ Win 1 w' pb pcap ps.length (ps.map pv) ∧ ∀ p ∈ ps, PtAt w'.heap.size w' p) ∧ w.grownBy w' none := by
 have HN := Lib.hid hn
 have HR := Lib.hid reverseP_any
 have HNb := Lib.hid (fun W (hW : w.grownBy W none) => numbered_any TN ta tcap cs TK W ((hC.keep hW (by simp)).mono hW.size) hs hl)
 have hX1 := X.c_size
 have hX2 := X.c_all
 have HXC := Lib.hid (show X.c.toArray.toList = X.c from rfl)
 unfold Pm.v
 obtain ⟨cx, hcx⟩ : ∃ cx, cx = X.c.toArray := ⟨_, rfl⟩
 have HCX := Lib.hid hcx
 rw [← hcx] at hX1 hX2 HXC ⊢
 clear hcx hs hl hC hn
 have T1 := Lib.hid (alc3a w (.cells #[.string TN, .slice ta cs.length tcap, .int .i64 TK] 24) (.cells cx 34) (.cells #[.map none, .slice none 0 0] 72))
 have T2 := Lib.hid (alc3b w (.cells #[.string TN, .slice ta cs.length tcap, .int .i64 TK] 24) (.cells cx 34) (.cells #[.map none, .slice none 0 0] 72))
 have T3 := Lib.hid (alc3c w (.cells #[.string TN, .slice ta cs.length tcap, .int .i64 TK] 24) (.cells cx 34) (.cells #[.map none, .slice none 0 0] 72))
 have G1 := Lib.hid (gq_al (gq_al (gq_al (grown_reflT w none) (.cells #[.string TN, .slice ta cs.length tcap, .int .i64 TK] 24)) (.cells cx 34)) (.cells #[.map none, .slice none 0 0] 72))
 have HPX := Lib.hid hX
 clear hX
 go_enter Try.func26, Try.ntmps26
 go_upto_region 1 with fail
 obtain ⟨w1, hw1⟩ : ∃ w1, w1 = ((w.alloc (.cells #[.string TN, .slice ta cs.length tcap, .int .i64 TK] 24)).alloc (.cells cx 34)).alloc (.cells #[.map none, .slice none 0 0] 72) := ⟨_, rfl⟩
 have hs1 : w1.heap.size = w.heap.size + 3 := by rw [hw1]; simp
 change Code.wp _ _ _ _ (((w.alloc (.cells #[.string TN, .slice ta cs.length tcap, .int .i64 TK] 24)).alloc (.cells cx 34)).alloc (.cells #[.map none, .slice none 0 0] 72))
 rw [← hw1] at T1 T2 T3 G1 ⊢
 clear hw1
 have HS1 := Lib.hid hs1
 have H0 : Hid (Lay w w1 (w1.alloc (.cells #[.pointer (some ⟨w.heap.size + 1, 0, none⟩)] 112)) X S [(⟨w.heap.size + 1, 0, none⟩, X)] [] (some ⟨w1.heap.size, 0, none⟩) none 1 0) := Lib.hid (by
  refine ⟨by simp [Pm.allsL], ⟨rfl, Nat.le_refl _, by decide, fun k hk => by rw [bk_some] at hk; subst hk; simp, .inr ⟨w1.heap.size, 0, rfl, fun j u hj => ?_, fun j hj => ?_, fun o => frozen_of_row _ _ o _ _ (heap_alloc_new w1 _)⟩⟩, Win.nil 1 _, fun k hk => by rw [bk_some] at hk; omega, fun k hk => by simp [bk] at hk, fun k _ hk => by simp [bk] at hk, World.grownBy_alloc _ _ _, fun p hp => ?_, fun p hp => by simp at hp⟩
  ·rw [Nat.zero_add, cell_of_row _ _ j _ _ _ (heap_alloc_new w1 _)]
   have hj0 : j = 0 := by have := (List.getElem?_eq_some_iff.1 hj).1; simpa using this
   subst hj0; simpa using hj
  ·obtain rfl : j = 0 := by omega
   rw [cell_of_row _ _ _ _ _ _ (heap_alloc_new w1 _)]; rfl
  ·rw [List.mem_singleton.1 hp]
   refine ⟨⟨w.heap.size + 1, 0, rfl, by omega, ?_⟩, HPX.out⟩
   have := range_rowD T2.out
   rw [HXC.out] at this
   exact this)
 have Z1 := Lib.hid (World.grownBy_alloc w1 (.cells #[.pointer (some ⟨w.heap.size + 1, 0, none⟩)] 112) none)
 clear HXC HPX T2 hX1 hX2 HCX hs1
 go_upto_region 2 with fail
 change Code.wp _ _ _ _ (w1.alloc (.cells #[.pointer (some ⟨w.heap.size + 1, 0, none⟩)] 112))
 obtain ⟨wa, hwa⟩ : ∃ wa, wa = w1.alloc (.cells #[.pointer (some ⟨w.heap.size + 1, 0, none⟩)] 112) := ⟨_, rfl⟩
 rw [← hwa] at H0 Z1 ⊢
 clear hwa Z1
 go_wp2_with fail
 go_loopw [5, 6] (fun s5 s6 wr => ∃ (a b : Ptr) (n m cap cap2 : Nat), s5 = .slice a n cap ∧ s6 = .slice b m cap2 ∧ n ≤ cap ∧ n ≤ 100000 ∧ m ≤ 100000 ∧ Hid (∃ st out, n = st.length ∧ m = out.length ∧ Lay w w1 wr X S st out a b cap cap2)) (fun _ s6 _ => 100001 - (match s6 with | .slice _ m _ => m | _ => 0))
 case atStart => exact ⟨_, _, 1, 0, 1, 0, rfl, rfl, by omega, by omega, by omega, Lib.hid ⟨[(⟨w.heap.size + 1, 0, none⟩, X)], [], rfl, rfl, H0.out⟩⟩
 case round =>
  obtain ⟨a, b, n, m, cap, cap2, rfl, rfl, hnc, hn3, hm3, H⟩ := hrel
  clear H0
  by_cases h0 : n = 0
  ·subst h0
   obtain ⟨st, out, h1, h2, hP⟩ := H.out
   obtain rfl := List.eq_nil_of_length_eq_zero h1.symm
   have HR1 := Lib.hid (HR.out out b cap2 m wr (by rw [h2]; exact hP.ou) h2)
   have HQ := Lib.hid (And.intro h2 hP)
   clear h1 h2 hP H
   go_wp2_with fail
   refine (HR1.out).mono ?_
   rintro e w2 ⟨rfl, hw, ho⟩
   have gw2 : w1.grownBy w2 none := grown_onlyN HQ.out.2.g ho HQ.out.2.lb
   have HW := Lib.hid (And.intro hw gw2)
   have HNc := Lib.hid (HNb.out w2 (G1.out.trans gw2))
   obtain ⟨⟨t0, t1, t2⟩, t3, t4, t5⟩ := boxD3 (blkD gw2 T1.out)
   clear hw ho gw2
   go_upto_region 13 with fail
   go_wp2_with fail
   refine (HNc.out).mono ?_
   rintro e w3 ⟨⟨mb, rfl, hmc⟩, hg⟩
   have HMC := Lib.hid (And.intro hmc hg)
   have S3 := Lib.hid (blkD (HW.out.2.trans hg) T3.out)
   clear hmc hg t0 t1 t2 t3 t4 t5
   obtain ⟨⟨s0, s1⟩, s2, s3⟩ := two_of S3.out
   go_wp2_with fail
   have hgS := grown_setX (grown_cellR w3 (w.heap.size + 1 + 1) 0 (.map (some mb))) 1 (.slice b m cap2)
   have hlb := HQ.out.2.lb
   have hs1 := HS1.out
   refine bodyPost_ret (results_cell_row rfl _ _ (w.heap.size + 1 + 1) 72 #[.map (some mb), .slice b m cap2] (0, 0) _ rfl (set2 S3.out) Try.underlying72 rfl (by kernel_rfl)) rfl ⟨⟨mb, b, cap2, out.reverse, by rw [List.length_reverse, ← HQ.out.1], ?_, ?_, ?_, ?_⟩, ?_⟩
   ·have := HQ.out.2.eq
    simp only [Pm.allsL, List.map_nil, List.nil_append] at this
    rw [snds, List.map_reverse]; exact this
   ·exact HMC.out.1.keptS hgS (fun r e => by cases e; exact ⟨_, _, _, S3.out⟩)
   ·rw [List.length_reverse, ← HQ.out.1]
    exact (HW.out.1.keepG HMC.out.2).keep (Only.of_grown hgS) (fun k hk e => by cases e; have := hlb _ hk; omega)
   ·intro p hp
    have hp2 := HQ.out.2.po p (List.mem_reverse.1 hp)
    have hz : w.heap.size + 2 ≤ w3.heap.size := by have := (HW.out.2.trans HMC.out.2).size; omega
    exact ((hp2.keep (HW.out.2.trans HMC.out.2) (by simp)).keep hgS (fun r e => by cases e; omega)).mono (Nat.le_trans hz hgS.size)
   ·exact grown_thenX ((G1.out.trans HW.out.2).trans HMC.out.2) hgS (fun j e => by cases e; omega)
  ·obtain ⟨m', rfl⟩ : ∃ m', n = m' + 1 := ⟨n - 1, by omega⟩
   clear h0
   obtain ⟨st, p, out, hst, hout, hP⟩ : ∃ st p out, m' = st.length ∧ m = out.length ∧ Lay w w1 wr X S (st ++ [p]) out a b cap cap2 := by
    obtain ⟨st, out, h1, h2, h3⟩ := H.out
    rcases List.eq_nil_or_concat st with rfl | ⟨s0, p, rfl⟩
    ·simp at h1
    ·exact ⟨s0, p, out, by simp at h1; omega, h2, by simpa using h3⟩
   obtain ⟨⟨bp, op, hpe, hbp, hpc⟩, hpS⟩ := hP.pt p (by simp)
   have few := hP.few
   have hXn := HN.out
   obtain ⟨ga, oa, rfl, hca, _, _⟩ := hP.left.mem.resolve_left (by have := hP.left.le; simp at this; omega)
   have c1 := hca m' (.pointer (some p.1)) (by rw [List.map_append, List.getElem?_append_right (by rw [List.length_map]; omega), List.length_map, ← hst, Nat.sub_self]; rfl)
   rw [hpe] at c1
   have hx8 := p.2.c_8
   have hwl : Win 1 wr (some ⟨ga, oa, none⟩) cap m' (st.map pv) := by
    have := hP.left
    rw [List.map_append, List.length_append] at this
    exact this.fewer (by simp; omega) (by rw [pv_len, hst])
   have HC8 : Hid (w1.cell? ⟨bp, op + 8, none⟩ = some p.2.ksl.v) := Lib.hid (hpc 8 _ hx8)
   have hle := hP.left.le
   have hcap0 : cap ≠ 0 := by simp at hle; omega
   have hkn : p.2.kids.length ≤ 100000 ∧ m' + p.2.kids.length ≤ 200000 := by
    have h1 := len_nsS p.2.kids
    have h2 := Pm.n_eq p.2
    have h3 := ns_appS (snds st) (snds [p])
    have h4 := few.2.1
    simp only [snds, List.map_append, List.map_cons, List.map_nil] at h4
    simp only [snds, List.map_cons, List.map_nil, Pm.ns] at h3
    have h5 := few.1
    rw [List.length_append] at h5
    simp at h5
    omega
   have HKa : Hid (∀ kn, kn = p.2.kids.length → kn ≠ 0 → ∃ bk' ok, p.2.ksl.a = some ⟨bk', ok, none⟩ ∧ ∀ q ∈ kidsA p.2 bk' ok, PtAt (w.heap.size + 2) w1 q ∧ PmS S w q.2) := Lib.hid (fun kn hk h0 => by
    have hcs : CellsS S w p.2.ksl.a (p.2.kids.flatMap Pm.c) := by
     rw [← Pm.ksl_l]; exact (Pm.ksl_in hpS).1
    rcases hcs with h | ⟨b', o', e', _, hb', hc'⟩
    ·have := congrArg List.length h
     rw [pm_len] at this
     simp at this; omega
    ·exact ⟨b', o', e', kidsA_at G1.out hpS hb' hc'⟩)
   have HQ := Lib.hid (And.intro hst (And.intro hout hP))
   have HLl := Lib.hid (show p.2.ksl.l.length = p.2.kids.length by rw [Pm.ksl_l])
   obtain ⟨⟨ka, kc, kl⟩, hk⟩ : ∃ k, k = p.2.ksl := ⟨_, rfl⟩
   rw [← hk] at HC8 HKa HLl
   simp only [Psl.v] at HC8
   dsimp only at HC8 HKa HLl
   obtain ⟨kn, hkn0⟩ : ∃ kn, kn = kl.length := ⟨_, rfl⟩
   have HLk : Hid (kn = p.2.kids.length) := Lib.hid (by rw [hkn0]; exact HLl.out)
   rw [← hkn0] at HC8
   rw [← HLk.out] at hkn
   have c8 := hP.g.cell HC8.out (by simp)
   have HWl := Lib.hid hwl
   have hwm : IntKind.i64.wrap (m' : Int) = m' := IntWalk.i64_in _ (by omega)
   have hmc : m' ≤ cap := by simp at hle; omega
   have i0 : (0 : Int) ≤ m' := by omega
   have i1 : (m' : Int) < ((m' + 1 : Nat) : Int) := by omega
   have HPe := Lib.hid hpe
   clear hst hout hP hca hwl few hpS hpc hx8 hk hkn0 hle H HLl hpe
   have HKK : Hid (∃ K : List (Addr × Pm), K.length = kn ∧ snds K = p.2.kids ∧ (∀ q ∈ K, PtAt (w.heap.size + 2) w1 q ∧ PmS S w q.2) ∧ ∀ k, k < kn → ∃ bk' ok y, ka = some ⟨bk', ok, none⟩ ∧ K.take (k + 1) = K.take k ++ [(⟨bk', ok + k * 10, none⟩, y)]) := Lib.hid (by
    by_cases e0 : kn = 0
    ·refine ⟨[], e0.symm, ?_, fun q hq => by simp at hq, fun k hk => by omega⟩
     have := HLk.out
     rw [e0] at this
     rw [List.eq_nil_of_length_eq_zero this.symm]; rfl
    ·obtain ⟨bk', ok, e, hq⟩ := HKa.out kn HLk.out e0
     exact ⟨kidsA p.2 bk' ok, by rw [kidsA_len]; exact HLk.out.symm, kidsA_snd _ _ _, hq, fun k hk => ⟨bk', ok, _, e, kidsA_take p.2 bk' ok (by rw [← HLk.out]; exact hk)⟩⟩)
   obtain ⟨K, hK⟩ := HKK.out
   have HK := Lib.hid hK
   have J0 : Hid (Push w1 wr (st ++ K.take 0) out m' 0 m (some ⟨ga, oa, none⟩) cap b cap2) := Lib.hid ⟨HQ.out.2.2.g, by rw [List.take_zero, List.append_nil]; exact HWl.out, fun j hj => HQ.out.2.2.la j hj, by rw [HQ.out.2.1]; exact HQ.out.2.2.ou, fun j hj => HQ.out.2.2.ap j hj⟩
   clear hK HKK HKa HWl
   go_upto_region 6 with fail
   clear c1 i0 i1 hwm hmc
   go_wp2_with fail
   generalize wr = wz at *
   go_loopw [5, 29] (fun s5 s29 wr => ∃ (k : Nat) (a5 : Ptr) (c5 : Nat), s5 = .slice a5 (m' + k) c5 ∧ s29 = .int .i64 k ∧ k ≤ kn ∧ Hid (Push w1 wr (st ++ K.take k) out m' k m a5 c5 b cap2)) (fun _ s29 _ => kn - (intOf s29).toNat)
   case atStart => exact ⟨0, _, cap, rfl, rfl, Nat.zero_le _, J0⟩
   case round =>
    obtain ⟨k, a5, c5, rfl, rfl, hk, J⟩ := hrel
    clear J0 c8
    have c8 := J.out.g.cell HC8.out (by simp)
    by_cases hlt : k < kn
    ·obtain ⟨bk', ok, y, rfl, hKt⟩ := HK.out.2.2.2 k hlt
     have HKt := Lib.hid hKt
     have i0 : (0 : Int) ≤ k := by omega
     have i1 : (k : Int) < kn := by omega
     clear hKt
     go_upto_region 9 with fail
     have gb := World.grownBy_alloc wr (.cells #[.pointer (some ⟨bk', ok + k * 10, none⟩)] 112) none
     have GB := Lib.hid gb
     have WL := Lib.hid (J.out.left.keepG gb)
     have ZB := Lib.hid (J.out.g.trans gb)
     clear gb
     go_wp2_with (first
      | (at_builtin; refine wpList_append_winA (by rfl) (.tmp 32) (.tmp 39) ptP_el (by rfl) WL.out (by rfl) (some ⟨wr.heap.size, 0, none⟩) 1 1 (by rfl) [.pointer (some ⟨bk', ok + k * 10, none⟩)] (fun e => by cases e) rfl (by omega) (fun ad e => by cases e; exact World.news_of_block (heap_alloc_new wr _)) (by simp [Value.oneCell']) ?_)
      | fail)
     intro a6 c6 w6 z6 o6 b6 _
     have J6 : Hid (Push w1 w6 (st ++ K.take (k + 1)) out m' (k + 1) m a6 c6 b cap2) := Lib.hid ⟨grown_onlyN ZB.out o6 J.out.la, by rw [HKt.out]; simpa [Nat.add_assoc, List.map_take] using z6, fun j hj => (b6 j hj).elim (J.out.la j) (fun e => by have := J.out.g.size; omega), (J.out.ou.keepG GB.out).keep o6 (fun j hj e => J.out.ap j e hj), fun j hj hj2 => (b6 j hj).elim (fun e => J.out.ap j e hj2) (fun e => by have := J.out.ou.lt j hj2; omega)⟩
     clear z6 o6 b6
     go_wp2_with fail
     go_roundw
     case rel => exact ⟨k + 1, a6, c6, by rw [Nat.add_assoc], by go_num, by omega, J6⟩
     case measure => simp [intOf]; omega
    ·obtain rfl : kn = k := by omega
     clear hlt
     have KT : Hid (K.take kn = K) := Lib.hid (List.take_of_length_le (Nat.le_of_eq HK.out.1))
     have WO := Lib.hid (J.out.ou.keepG (World.grownBy_alloc wr (.cells #[.pointer (some ⟨bp, op, none⟩)] 112) none))
     have hmm := hm3
     go_upto_region 11 with fail
     clear c8
     go_wp2_with (first
      | (at_builtin; refine wpList_append_winA (by rfl) (.tmp 42) (.tmp 44) ptP_el (by rfl) WO.out (by rfl) (some ⟨wr.heap.size, 0, none⟩) 1 1 (by rfl) [.pointer (some ⟨bp, op, none⟩)] (fun e => by cases e) rfl (by omega) (fun ad e => by cases e; exact World.news_of_block (heap_alloc_new wr _)) (by simp [Value.oneCell']) ?_)
      | fail)
     intro b6 cap6 w6 hw6 ho6 hb6 _
     have E6 := Lib.hid (And.intro hw6 (And.intro ho6 hb6))
     clear hw6 ho6 hb6
     go_wp2_with fail
     go_roundw
     case rel =>
      obtain ⟨hst, hout, hP⟩ := HQ.out
      obtain ⟨h5, h6, h7⟩ := E6.out
      have ga := World.grownBy_alloc wr (.cells #[.pointer (some ⟨bp, op, none⟩)] 112) none
      have hsz := J.out.g.size
      have hpe := HPe.out
      have hK4 := HK.out
      have few := hP.few
      have hXn := HN.out
      refine ⟨a5, b6, m' + kn, m + 1, c5, cap6, rfl, rfl, J.out.left.le, ?_, ?_, Lib.hid ⟨st ++ K, out ++ [p], ?_, ?_, ?_⟩⟩
      ·have h1 := len_nsS (snds (st ++ K))
       have h2 := Pm.n_eq p.2
       have h3 := few.2.1
       simp only [snds, List.map_append, List.map_cons, List.map_nil, List.length_append, List.length_map] at h1 h3
       rw [ns_appS] at h1 h3
       simp only [Pm.ns] at h3
       have h4 : Pm.ns (List.map (·.2) K) = Pm.ns p.2.kids := by rw [show List.map (·.2) K = p.2.kids from hK4.2.1]
       omega
      ·have h3 := few.2.2
       simp only [snds, List.map_append, List.map_cons, List.map_nil] at h3
       rw [ns_appS] at h3
       have h2 := Pm.n_eq p.2
       simp only [Pm.ns] at h3
       omega
      ·rw [List.length_append, hK4.1]; omega
      ·rw [List.length_append, ← hout]; rfl
      ·refine ⟨?_, ?_, ?_, J.out.la, fun j hj => ?_, fun j hj hj2 => ?_, ?_, fun q hq => ?_, fun q hq => ?_⟩
       ·rw [← hP.eq]
        simp only [snds, List.map_append, List.map_cons, List.map_nil, Pm.allsL_app, List.reverse_append, Pm.allsL]
        rw [show List.map (·.2) K = p.2.kids from hK4.2.1, Pm.alls_eq]
        simp
       ·rw [List.length_append, hK4.1, ← hst]
        have := J.out.left
        rw [KT.out] at this
        exact (this.keepG ga).keep h6 (fun j hj e => J.out.ap j hj e)
       ·rw [List.length_append, List.map_append, ← hout, List.map_cons, List.map_nil, pv, hpe]
        simpa using h5
       ·rcases h7 j hj with e | e
        ·exact hP.lb j e
        ·have := ga.size
         omega
       ·rcases h7 j hj2 with e | e
        ·exact J.out.ap j hj e
        ·have := J.out.left.lt j hj
         have := ga.size
         omega
       ·exact grown_onlyN (J.out.g.trans ga) h6 hP.lb
       ·rcases List.mem_append.1 hq with hq | hq
        ·exact hP.pt q (by simp [hq])
        ·exact hK4.2.2.1 q hq
       ·rcases List.mem_append.1 hq with hq | hq
        ·exact hP.po q hq
        ·rw [List.mem_singleton.1 hq]; exact (hP.pt p (by simp)).1
     case measure => simp; omega
end Go.Proofs.Ytfambadamebjjaa
namespace Go.Proofs.Ytfambadamebjjaa
open Go.RowKit
set_option linter.unusedVariables false
set_option linter.unusedSimpArgs false
theorem joinOne {t : Int} (h : isT t) : joinT 0 1 [t] = t := by
 rcases h with rfl | rfl | rfl <;> simp [joinT]
set_option maxRecDepth 100000 in
set_option maxHeartbeats 12800000 in
theorem alone_any (b : Nat) (sa : Ptr) (sn sc : Nat) (cs : List Cl) (ra : Option Addr) (rcap : Nat) (rv : List Vv) (S : Nat → Prop) (kd : List Int) (kad : Option Addr) (kcap : Nat) (w : World) (hM : MapC w b cs) (hV : VvAt w.heap.size w ra rv) (hf : ∀ v ∈ rv, (vlV v).fine) (hlen : rv.length = cs.length) (hk : IntsAt .i64 w kad kd) (hkt : ∀ t ∈ kd, isT t) : ∀ (x : Pm), PmS S w x → x.e.nod cs → kd.length = x.kids.length →
  Calls Try.prog 49 #[.agg #[.map (some b), .slice sa sn sc], x.v, .slice kad kd.length kcap, .slice ra rv.length rcap] w fun e w' => e = .returned (.int .i64 (aloneT cs rv kd x.e)) ∧ w.grownBy w' none
 | .mk k1 c1 r1 ⟨vk1, vn1, vs1⟩ o1 la1 lc1 l1 ka1 kc1 ks1 p1, hx, hnod, hkl => by
  obtain ⟨hR, _, _, _, _⟩ := hx
  obtain ⟨n0, n1, n2, n3, n4, _⟩ := hnod
  have hkl2 : kd.length = ks1.length := hkl
  obtain ⟨res, hres⟩ : ∃ res, res = aloneT cs rv kd (Pm.e (.mk k1 c1 r1 ⟨vk1, vn1, vs1⟩ o1 la1 lc1 l1 ka1 kc1 ks1 p1)) := ⟨_, rfl⟩
  rw [← hres]
  have hres2 : res = kindT k1 r1 (colV c1 cs rv vlZ) (colV o1 cs rv ⟨vk1, vn1, vs1⟩) ⟨vk1, vn1, vs1⟩ l1 kd := by rw [hres, Pm.e, aloneT]
  clear hres
  rw [show Pm.v (.mk k1 c1 r1 ⟨vk1, vn1, vs1⟩ o1 la1 lc1 l1 ka1 kc1 ks1 p1) = .agg #[.int .i64 (k1 : Nat), .string c1, .int .i64 (r1 : Nat), .int .i64 vk1, .int .i64 vn1, .string vs1, .string o1, .slice la1 l1.length lc1, .slice ka1 ks1.length kc1, .int .i64 (p1 : Nat)] from rfl]
  have HRes := Lib.hid hres2
  have h11 : k1 ≤ 11 := n0
  have HKl : Hid (k1 = 10 → kd.length = 1) := Lib.hid (fun e => by rw [hkl2]; have h := n4 e; rw [Pm.es_map, List.length_map] at h; exact h)
  have HC1 := Lib.hid n2
  have HKt := Lib.hid hkt
  have HCm := Lib.hid (fun (x y : Vl) => compared_any (r1 : Int) x y)
  have HNt := Lib.hid (fun W (hW : w.grownBy W none) => nth_any la1 lc1 l1 0 W (hR.keep (w' := W) (.of hW)).row)
  have HVa := Lib.hid (fun (h : c1.size ≤ maxLen) W (hW : w.grownBy W none) => colval_any b cs ra rcap rv c1 W (hM.kept hW) ((hV.keep hW (by simp)).mono1 hW.size) hf hlen h)
  have HLf := Lib.hid (fun (h3 : 3 ≤ k1) (h7 : k1 ≤ 7) (x : Vl) W (hW : w.grownBy W none) => leaf_any b sa sn sc cs ra rcap rv S k1 c1 r1 vk1 vn1 vs1 o1 la1 lc1 l1 ka1 kc1 ks1.length p1 x W (hM.kept hW) ((hV.keep hW (by simp)).mono1 hW.size) hf hlen (hR.keep (w' := W) (.of hW)) h3 h7 n1 n3 kd)
  have HAnd := Lib.hid (fun W (hW : w.grownBy W none) => and_any kad kcap kd W (hk.keep (below_grownL hW)))
  have HOr := Lib.hid (fun W (hW : w.grownBy W none) => or_any' kad kcap kd W (hk.keep (below_grownL hW)))
  have HNot := Lib.hid not_any
  clear hres2 n0 n1 n2 n3 n4 hM hV hf hR hkl hkl2 hk hkt
  generalize hln : l1.length = ln at *
  generalize hrn : rv.length = rn at *
  generalize hkn : kd.length = kn at *
  generalize hks : ks1.length = n at *
  clear hln hrn hlen hks
  have HKn := Lib.hid hkn
  clear hkn
  have TS := Lib.hid (alc2a w (.cells #[.map (some b), .slice sa sn sc] 72) (.cells #[.int .i64 (k1 : Nat), .string c1, .int .i64 (r1 : Nat), .int .i64 vk1, .int .i64 vn1, .string vs1, .string o1, .slice la1 ln lc1, .slice ka1 n kc1, .int .i64 (p1 : Nat)] 34))
  have TP := Lib.hid (alc2b w (.cells #[.map (some b), .slice sa sn sc] 72) (.cells #[.int .i64 (k1 : Nat), .string c1, .int .i64 (r1 : Nat), .int .i64 vk1, .int .i64 vn1, .string vs1, .string o1, .slice la1 ln lc1, .slice ka1 n kc1, .int .i64 (p1 : Nat)] 34))
  have G1 := Lib.hid (gq_al (gq_al (grown_reflT w none) (.cells #[.map (some b), .slice sa sn sc] 72)) (.cells #[.int .i64 (k1 : Nat), .string c1, .int .i64 (r1 : Nat), .int .i64 vk1, .int .i64 vn1, .string vs1, .string o1, .slice la1 ln lc1, .slice ka1 n kc1, .int .i64 (p1 : Nat)] 34))
  go_enter Try.func49, Try.ntmps49
  go_upto_region 1 with fail
  change Code.wp _ _ _ _ ((w.alloc (.cells #[.map (some b), .slice sa sn sc] 72)).alloc (.cells #[.int .i64 (k1 : Nat), .string c1, .int .i64 (r1 : Nat), .int .i64 vk1, .int .i64 vn1, .string vs1, .string o1, .slice la1 ln lc1, .slice ka1 n kc1, .int .i64 (p1 : Nat)] 34))
  generalize (w.alloc (.cells #[.map (some b), .slice sa sn sc] 72)).alloc (.cells #[.int .i64 (k1 : Nat), .string c1, .int .i64 (r1 : Nat), .int .i64 vk1, .int .i64 vn1, .string vs1, .string o1, .slice la1 ln lc1, .slice ka1 n kc1, .int .i64 (p1 : Nat)] 34) = w1 at *
  obtain ⟨⟨p0, p1x, p2, p3, p4⟩, p5, p6, p7, p8, p9⟩ := ten_of TP.out
  go_upto_region 2 with fail
  by_cases hA : k1 = 0 ∨ k1 = 1
  ·have hr : res = 1 := by rw [HRes.out]; rcases hA with rfl | rfl <;> rfl
   subst hr
   rcases hA with rfl | rfl
   all_goals
    clear h11 HRes
    go_wp2_with fail
    go_ret
    exact ⟨rfl, G1.out⟩
  by_cases h2 : k1 = 2
  ·subst h2
   have hr : res = 0 := by rw [HRes.out]; rfl
   subst hr
   clear h11 HRes hA
   go_wp2_with fail
   go_ret
   exact ⟨rfl, G1.out⟩
  by_cases h8 : k1 = 8
  ·subst h8
   have hr : res = joinT 0 1 kd := by rw [HRes.out]; rfl
   subst hr
   clear h11 HRes hA h2
   go_wp2_with fail
   refine (HAnd.out _ G1.out).mono ?_
   rintro e w2 ⟨rfl, rfl⟩
   go_wp2_with fail
   go_ret
   exact ⟨rfl, G1.out⟩
  by_cases h9 : k1 = 9
  ·subst h9
   have hr : res = joinT 1 0 kd := by rw [HRes.out]; rfl
   subst hr
   clear h11 HRes hA h2 h8
   go_wp2_with fail
   refine (HOr.out _ G1.out).mono ?_
   rintro e w2 ⟨rfl, rfl⟩
   go_wp2_with fail
   go_ret
   exact ⟨rfl, G1.out⟩
  by_cases h10 : k1 = 10
  ·subst h10
   have hr : res = notT (joinT 0 1 kd) := by
    rw [HRes.out]
    have h1 : kd.length = 1 := by rw [HKn.out]; exact HKl.out rfl
    match kd, h1, HKt.out with
    | [t], _, ht => rw [joinOne (ht t (by simp))]; rfl
   subst hr
   clear h11 HRes hA h2 h8 h9
   go_wp2_with fail
   refine (HAnd.out _ G1.out).mono ?_
   rintro e w2 ⟨rfl, rfl⟩
   go_wp2_with fail
   refine (HNot.out _ _).mono ?_
   rintro e w3 ⟨rfl, rfl⟩
   go_wp2_with fail
   go_ret
   exact ⟨rfl, G1.out⟩
  by_cases h11' : k1 = 11
  ·subst h11'
   have hr : res = ofT r1 ⟨vk1, vn1, vs1⟩ (l1.getD 0 default) := by rw [HRes.out]; rfl
   have HC1 := Lib.hid (HCm.out ⟨vk1, vn1, vs1⟩ (l1.getD 0 default))
   generalize l1.getD 0 default = Y at *
   obtain ⟨yk, yn, ys⟩ := Y
   dsimp only at *
   subst hr
   have HVc := Lib.hid (fun W (hW : w1.grownBy W none) => HNt.out W (G1.out.trans hW))
   clear h11 HRes hA h2 h8 h9 h10
   go_upto_region 14 with fail
   clear p0 p1x p2 p3 p4 p5 p6 p7 p8 p9
   refine wp_region_held_drew (S := (fun W => Hid (w1.grownBy W none))) (by kernel_rfl) (Lib.hid (grown_drewT (grown_reflX w1 none))) (fun hHeld => ?_)
   refine TKB (i := 0) (v := ?vaz) rfl ?yaz ?raz
   case yaz => (intro w hSw; (try dsimp only at hSw); go_simp; try with_reducible rfl)
   simp only [Act.put, List.getElem_toArray, List.getElem_cons_zero, List.size_toArray, List.length_cons, List.length_nil, Nat.reduceAdd, Array.replicate, List.replicate, List.setIfInBounds_toArray, List.set_cons_zero, List.set_cons_succ]
   refine TKB (i := 1) (v := ?vbz) rfl ?ybz ?rbz
   case ybz => (intro w hSw; obtain ⟨⟨p0, p1x, p2, p3, p4⟩, p5, p6, p7, p8, p9⟩ := ten_of (blkD hSw.out TP.out); clear hSw; go_simp; try with_reducible rfl)
   simp only [Act.put, List.getElem_toArray, List.getElem_cons_succ, List.getElem_cons_zero, List.setIfInBounds_toArray, List.set_cons_zero, List.set_cons_succ]
   refine TKB (i := 2) (v := ?vcz) rfl ?ycz ?rcz
   case ycz => (intro w hSw; (try dsimp only at hSw); go_simp; try with_reducible rfl)
   simp only [Act.put, List.getElem_toArray, List.getElem_cons_succ, List.getElem_cons_zero, List.setIfInBounds_toArray, List.set_cons_zero, List.set_cons_succ]
   refine TKB (i := 3) (v := ?vdz) rfl ?ydz ?rdz
   case ydz => (intro w hSw; obtain ⟨⟨p0, p1x, p2, p3, p4⟩, p5, p6, p7, p8, p9⟩ := ten_of (blkD hSw.out TP.out); clear hSw; go_simp; try with_reducible rfl)
   simp only [Act.put, List.getElem_toArray, List.getElem_cons_succ, List.getElem_cons_zero, List.setIfInBounds_toArray, List.set_cons_zero, List.set_cons_succ]
   refine TKB (i := 4) (v := ?vez) rfl ?yez ?rez
   case yez => (intro w hSw; (try dsimp only at hSw); go_simp; try with_reducible rfl)
   simp only [Act.put, List.getElem_toArray, List.getElem_cons_succ, List.getElem_cons_zero, List.setIfInBounds_toArray, List.set_cons_zero, List.set_cons_succ]
   refine TKB (i := 5) (v := ?vfz) rfl ?yfz ?rfz
   case yfz => (intro w hSw; obtain ⟨⟨p0, p1x, p2, p3, p4⟩, p5, p6, p7, p8, p9⟩ := ten_of (blkD hSw.out TP.out); clear hSw; go_simp; try with_reducible rfl)
   simp only [Act.put, List.getElem_toArray, List.getElem_cons_succ, List.getElem_cons_zero, List.setIfInBounds_toArray, List.set_cons_zero, List.set_cons_succ]
   refine RD1 (i := 6) rfl (fun K' hK => ?_)
   go_simp
   go_at_call 67
   refine (HVc.out _ (grown_drewT (grown_reflX w1 none))).mono ?_
   rintro e w5 ⟨rfl, hg⟩
   have Z5 : Hid (w1.grownBy w5 none) := Lib.hid ((grown_drewT (grown_reflX w1 none)).trans hg)
   clear hg
   refine hK.out _ _ Z5 (fun hHeld => ?_)
   clear hK K'
   simp only [List.setIfInBounds_toArray, List.set_cons_zero, List.set_cons_succ]
   refine RD1 (i := 7) rfl (fun K' hK => ?_)
   go_simp
   go_at_call 66
   refine (HC1.out _).mono ?_
   rintro e w6 ⟨rfl, hg⟩
   have Z6 : Hid (w1.grownBy w6 none) := Lib.hid (Z5.out.trans hg)
   clear hg
   refine hK.out _ _ Z6 (fun hHeld => ?_)
   clear hK K'
   simp only [List.setIfInBounds_toArray, List.set_cons_zero, List.set_cons_succ]
   refine TKB (i := 8) (v := ?vgz) rfl ?ygz ?rgz
   case ygz => (intro w hSw; (try dsimp only at hSw); go_simp; try with_reducible rfl)
   simp only [Act.put, List.getElem_toArray, List.getElem_cons_succ, List.getElem_cons_zero, List.setIfInBounds_toArray, List.set_cons_zero, List.set_cons_succ]
   refine wpAnyH_done (by kernel_rfl) ?_ _
   have G6 := Lib.hid (G1.out.trans Z6.out)
   go_wp2_with fail
   go_ret
   exact ⟨rfl, G6.out⟩
  ·have f0 : ((k1 : Int) == 0) = false := by rw [beq_eq_false_iff_ne]; omega
   have f1 : ((k1 : Int) == 1) = false := by rw [beq_eq_false_iff_ne]; omega
   have f2 : ((k1 : Int) == 2) = false := by rw [beq_eq_false_iff_ne]; omega
   have f8 : ((k1 : Int) == 8) = false := by rw [beq_eq_false_iff_ne]; omega
   have f9 : ((k1 : Int) == 9) = false := by rw [beq_eq_false_iff_ne]; omega
   have f10 : ((k1 : Int) == 10) = false := by rw [beq_eq_false_iff_ne]; omega
   have f11 : ((k1 : Int) == 11) = false := by rw [beq_eq_false_iff_ne]; omega
   have HLg := Lib.hid (HLf.out (by omega) (by omega) (colV c1 cs rv vlZ))
   have HVb := Lib.hid (HVa.out (HC1.out (by omega) (by omega)))
   rw [← HRes.out] at HLg
   clear HRes
   generalize colV c1 cs rv vlZ = Y at *
   obtain ⟨yk, yn, ys⟩ := Y
   dsimp only at *
   have HVc := Lib.hid (fun W (hW : w1.grownBy W none) => HVb.out W (G1.out.trans hW))
   have HLh := Lib.hid (fun W (hW : w1.grownBy W none) => HLg.out W (G1.out.trans hW))
   clear h11 hA h2 h8 h9 h10 h11' HVb HLg HLf HVa
   go_upto_region 15 with fail
   clear f0 f1 f2 f8 f9 f10 f11
   clear p0 p1x p2 p3 p4 p5 p6 p7 p8 p9
   refine wp_region_held_drew (S := (fun W => Hid (w1.grownBy W none))) (by kernel_rfl) (Lib.hid (grown_drewT (grown_reflX w1 none))) (fun hHeld => ?_)
   refine TKA (i := 0) (v := .agg #[.map (some b), .slice sa sn sc]) rfl (yieldsIf_load_mid (by rfl) _ _ rfl w.heap.size 0 rfl _ _ (fun W hS => range_rowD (blkD hS.out TS.out)) Try.underlying72 rfl sv_size) ?_
   simp only [Act.put, List.getElem_toArray, List.getElem_cons_zero, List.size_toArray, List.length_cons, List.length_nil, Nat.reduceAdd, Array.replicate, List.replicate, List.setIfInBounds_toArray, List.set_cons_zero, List.set_cons_succ]
   refine TKA (i := 1) (v := .agg #[.int .i64 (k1 : Nat), .string c1, .int .i64 (r1 : Nat), .int .i64 vk1, .int .i64 vn1, .string vs1, .string o1, .slice la1 ln lc1, .slice ka1 n kc1, .int .i64 (p1 : Nat)]) rfl (yieldsIf_load_mid (by rfl) _ _ rfl (w.heap.size + 1) 0 rfl _ _ (fun W hS => range_rowD (blkD hS.out TP.out)) Try.underlying34 rfl pred_size) ?_
   simp only [Act.put, List.getElem_toArray, List.getElem_cons_succ, List.getElem_cons_zero, List.setIfInBounds_toArray, List.set_cons_zero, List.set_cons_succ]
   refine TKB (i := 2) (v := ?vhz) rfl ?yhz ?rhz
   case yhz => (intro w hSw; (try dsimp only at hSw); go_simp; try with_reducible rfl)
   simp only [Act.put, List.getElem_toArray, List.getElem_cons_succ, List.getElem_cons_zero, List.setIfInBounds_toArray, List.set_cons_zero, List.set_cons_succ]
   refine TKB (i := 3) (v := ?viz) rfl ?yiz ?riz
   case yiz => (intro w hSw; have q4 := cell_of_row _ _ 0 _ _ _ (blkD hSw.out TS.out); simp only [List.getElem?_toArray, List.getElem?_cons_zero] at q4; clear hSw; go_simp; try with_reducible rfl)
   simp only [Act.put, List.getElem_toArray, List.getElem_cons_succ, List.getElem_cons_zero, List.setIfInBounds_toArray, List.set_cons_zero, List.set_cons_succ]
   refine TKB (i := 4) (v := ?vjz) rfl ?yjz ?rjz
   case yjz => (intro w hSw; (try dsimp only at hSw); go_simp; try with_reducible rfl)
   simp only [Act.put, List.getElem_toArray, List.getElem_cons_succ, List.getElem_cons_zero, List.setIfInBounds_toArray, List.set_cons_zero, List.set_cons_succ]
   refine TKB (i := 5) (v := ?vkz) rfl ?ykz ?rkz
   case ykz => (intro w hSw; (try dsimp only at hSw); go_simp; try with_reducible rfl)
   simp only [Act.put, List.getElem_toArray, List.getElem_cons_succ, List.getElem_cons_zero, List.setIfInBounds_toArray, List.set_cons_zero, List.set_cons_succ]
   refine TKB (i := 6) (v := ?vlz) rfl ?ylz ?rlz
   case ylz => (intro w hSw; obtain ⟨⟨p0, p1x, p2, p3, p4⟩, p5, p6, p7, p8, p9⟩ := ten_of (blkD hSw.out TP.out); clear hSw; go_simp; try with_reducible rfl)
   simp only [Act.put, List.getElem_toArray, List.getElem_cons_succ, List.getElem_cons_zero, List.setIfInBounds_toArray, List.set_cons_zero, List.set_cons_succ]
   refine TKB (i := 8) (v := ?vmz) rfl ?ymz ?rmz
   case ymz => (intro w hSw; (try dsimp only at hSw); go_simp; try with_reducible rfl)
   simp only [Act.put, List.getElem_toArray, List.getElem_cons_succ, List.getElem_cons_zero, List.setIfInBounds_toArray, List.set_cons_zero, List.set_cons_succ]
   refine RD1 (i := 7) rfl (fun K' hK => ?_)
   go_simp
   go_at_call 69
   refine (HVc.out _ (grown_drewT (grown_reflX w1 none))).mono ?_
   rintro e w5 ⟨rfl, hg⟩
   have Z5 : Hid (w1.grownBy w5 none) := Lib.hid ((grown_drewT (grown_reflX w1 none)).trans hg)
   clear hg
   refine hK.out _ _ Z5 (fun hHeld => ?_)
   clear hK K'
   simp only [List.setIfInBounds_toArray, List.set_cons_zero, List.set_cons_succ]
   refine RD1 (i := 9) rfl (fun K' hK => ?_)
   go_simp
   go_at_call 68
   refine (HLh.out _ Z5.out).mono ?_
   rintro e w6 ⟨rfl, hg⟩
   have Z6 : Hid (w1.grownBy w6 none) := Lib.hid (Z5.out.trans hg)
   clear hg
   refine hK.out _ _ Z6 (fun hHeld => ?_)
   clear hK K'
   simp only [List.setIfInBounds_toArray, List.set_cons_zero, List.set_cons_succ]
   refine TKB (i := 10) (v := ?vnz) rfl ?ynz ?rnz
   case ynz => (intro w hSw; (try dsimp only at hSw); go_simp; try with_reducible rfl)
   simp only [Act.put, List.getElem_toArray, List.getElem_cons_succ, List.getElem_cons_zero, List.setIfInBounds_toArray, List.set_cons_zero, List.set_cons_succ]
   refine wpAnyH_done (by kernel_rfl) ?_ _
   have G6 := Lib.hid (G1.out.trans Z6.out)
   go_wp2_with fail
   go_ret
   exact ⟨rfl, G6.out⟩
end Go.Proofs.Ytfambadamebjjaa
namespace Go.Proofs.Ytfambadamebjjaa
open Go.RowKit
set_option linter.unusedVariables false
set_option linter.unusedSimpArgs false
theorem tr_infoS : (Try.prog.info? 43).map (fun i => (i.zero, i.size, i.bytes)) = some (some (.int .i64 0), 1, 8) := by kernel_rfl
theorem trS_el : ElT 60 43 (.int .i64 0) 1 8 := ⟨Try.underlying60, info_partsT tr_infoS, by decide, by decide, by decide⟩
theorem Pm.e_kn : ∀ x : Pm, x.e.kn = x.kids.length
 | .mk .. => by rw [Pm.e]; show (Pm.es _).length = _; rw [Pm.es_map, List.length_map]; rfl
abbrev esn (l : List (Addr × Pm)) : List Prd := (snds l).map Pm.e
theorem esn_take (l : List (Addr × Pm)) {k : Nat} (hk : k < l.length) : esn (l.take (k + 1)) = esn (l.take k) ++ [(l.getD k default).2.e] := by
 simp only [esn, snds, List.map_map]
 rw [List.take_add_one, List.map_append, List.getD, List.getElem?_eq_getElem hk]
 rfl
theorem toldT_step (cs : List Cl) (rv : List Vv) (L : List Prd) (p : Prd) (st : List Int) : toldT cs rv (L ++ [p]) st = (toldT cs rv L st).take ((toldT cs rv L st).length - p.kn) ++ [aloneT cs rv ((toldT cs rv L st).drop ((toldT cs rv L st).length - p.kn)) p] := by
 rw [toldT_app]; rfl
theorem cntT_le : ∀ (L : List Prd) (n : Nat), cntT L n ≤ n + L.length
 | [], n => Nat.le_refl _
 | p :: L, n => by
  rw [cntT, List.length_cons]
  have := cntT_le L (n - p.kn + 1)
  omega
theorem aloneT_is {cs : List Cl} {rv : List Vv} {kd : List Int} : ∀ {p : Prd}, p.nod cs → (∀ x ∈ kd, isT x) → kd.length = p.kn → isT (aloneT cs rv kd p)
 | .mk k c rel v o ls ks q, h, hk, hl => isT_kind _ _ _ _ _ _ _ hk (fun e => by
  have h1 : kd.length = ks.length := hl
  have h2 := h.2.2.2.2.1 e
  intro e2
  rw [e2, h2] at h1
  cases h1)
structure Told (cs : List Cl) (rv : List Vv) (ps : List (Addr × Pm)) (w1 W : World) (k T : Nat) (a : Ptr) (c : Nat) : Prop where
 len : (toldT cs rv (esn (ps.take k)) []).length = T
 tr : ∀ x ∈ toldT cs rv (esn (ps.take k)) [], isT x
 win : Win 1 W a c T ((toldT cs rv (esn (ps.take k)) []).map (Value.int .i64))
 la : ∀ j, bk a j → w1.heap.size ≤ j
set_option maxRecDepth 100000 in
set_option maxHeartbeats 12800000 in
theorem struth_any (mb : Nat) (pb : Ptr) (pcap : Nat) (ps : List (Addr × Pm)) (cs : List Cl) (ra : Option Addr) (rcap : Nat) (rv : List Vv) (S : Nat → Prop) (X : Pm) (w : World) (hps : snds ps = X.alls) (hM : MapC w mb cs) (hW : Win 1 w pb pcap ps.length (ps.map pv)) (hpt : ∀ p ∈ ps, PtAt w.heap.size w p) (hX : PmS S w X) (hnod : X.e.nod cs) (hn5 : ps.length ≤ 100000) (hV : VvAt w.heap.size w ra rv) (hf : ∀ v ∈ rv, (vlV v).fine) (hlen : rv.length = cs.length) :
  Calls Try.prog 27 #[.agg #[.map (some mb), .slice pb ps.length pcap], .slice ra rv.length rcap] w fun e w' => e = .returned (.int .i64 (trP cs rv X.e)) ∧ w.grownBy w' none := by
 have hE : esn ps = X.e.alls := by rw [esn, hps, Pm.alls_e]
 have HRoom : Hid (∀ k, k < ps.length → (ps.getD k default).2.kids.length ≤ (toldT cs rv (esn (ps.take k)) []).length) := Lib.hid (fun k hk => by
  have h1 := roomT_alls X.e 0
  rw [← hE] at h1
  have h2 : esn ps = esn (ps.take (k + 1)) ++ esn (ps.drop (k + 1)) := by simp only [esn, snds, ← List.map_append, List.take_append_drop]
  rw [h2, esn_take ps hk, roomT_app, roomT_app] at h1
  have h3 := h1.1.2.1
  rw [Pm.e_kn] at h3
  rw [toldT_len]
  exact h3)
 have HEnd : Hid (toldT cs rv (esn ps) [] = [trP cs rv X.e]) := Lib.hid (by rw [hE, toldT_alls]; rfl)
 have HMem : Hid (∀ k, k < ps.length → PmS S w (ps.getD k default).2 ∧ (ps.getD k default).2.e.nod cs ∧ PtAt w.heap.size w (ps.getD k default)) := Lib.hid (fun k hk => by
  have hm : ps.getD k default ∈ ps := by rw [List.getD, List.getElem?_eq_getElem hk]; exact List.getElem_mem _
  have hm2 : (ps.getD k default).2 ∈ X.alls := by rw [← hps]; exact List.mem_map_of_mem hm
  refine ⟨hX.alls _ hm2, Prd.nod_alls cs X.e hnod _ ?_, hpt _ hm⟩
  rw [← Pm.alls_e]
  exact List.mem_map_of_mem hm2)
 have HCnt : Hid (∀ k, (toldT cs rv (esn (ps.take k)) []).length ≤ k) := Lib.hid (fun k => by
  rw [toldT_len]
  have := cntT_le (esn (ps.take k)) 0
  simp only [esn, snds, List.length_map, List.length_take, List.length_nil] at this ⊢
  omega)
 have HAln := Lib.hid (fun (kd : List Int) (kad : Option Addr) (kcap : Nat) W (hWg : w.grownBy W none) (hk : IntsAt .i64 W kad kd) (ht : ∀ t ∈ kd, isT t) (x : Pm) (hx : PmS S w x) (hd : x.e.nod cs) (hl : kd.length = x.kids.length) => alone_any mb pb ps.length pcap cs ra rcap rv S kd kad kcap W (hM.kept hWg) ((hV.keep hWg (by simp)).mono1 hWg.size) hf hlen hk ht x (hx.keep (.of hWg)) hd hl)
 have HWp := Lib.hid hW
 have HPn : Hid (0 < ps.length) := Lib.hid (by
  have h := congrArg List.length hps
  rw [List.length_map, Pm.alls_n] at h
  have := n_posS X
  omega)
 obtain ⟨res, hres⟩ : ∃ res, res = trP cs rv X.e := ⟨_, rfl⟩
 rw [← hres] at HEnd ⊢
 clear hres hE hM hV hf hlen hX hnod hpt hps hW
 obtain ⟨n, hn⟩ : ∃ n, n = ps.length := ⟨_, rfl⟩
 have HN := Lib.hid hn
 rw [← hn] at hn5 HAln HWp HPn ⊢
 generalize rv.length = rn at *
 clear hn
 have TS := Lib.hid (heap_alloc_new w (.cells #[.map (some mb), .slice pb n pcap] 72))
 have G1 := Lib.hid (World.grownBy_alloc w (.cells #[.map (some mb), .slice pb n pcap] 72) none)
 have Z0 := Lib.hid (grown_reflT (w.alloc (.cells #[.map (some mb), .slice pb n pcap] 72)) none)
 go_enter Try.func27, Try.ntmps27
 go_upto_region 1 with fail
 change Code.wp _ _ _ _ (w.alloc (.cells #[.map (some mb), .slice pb n pcap] 72))
 generalize w.alloc (.cells #[.map (some mb), .slice pb n pcap] 72) = w1 at *
 obtain ⟨⟨s0, s1⟩, s2, s3⟩ := two_of TS.out
 go_wp2_with fail
 clear s0 s1 s2 s3
 have J0 : Hid (Told cs rv ps w1 w1 0 0 none 0) := Lib.hid ⟨by simp [toldT], fun x hx => by simp [toldT] at hx, by simpa [toldT] using Win.nil 1 w1, fun j hj => by simp [bk] at hj⟩
 go_loopw [5, 12] (fun s5 s12 wr => ∃ (k T : Nat) (a : Ptr) (c : Nat), s5 = .slice a T c ∧ s12 = .int .i64 k ∧ k ≤ n ∧ T ≤ k ∧ Hid (w1.grownBy wr none) ∧ Hid (Told cs rv ps w1 wr k T a c)) (fun _ s12 _ => n - (intOf s12).toNat)
 case atStart => exact ⟨0, 0, none, 0, rfl, rfl, Nat.zero_le _, Nat.le_refl _, Z0, J0⟩
 case round =>
  obtain ⟨k, T, a, c, rfl, rfl, hk, hTk, KG, J⟩ := hrel
  clear J0 Z0
  by_cases hlt : k < n
  ·obtain ⟨hxS, hxN, hxP⟩ := HMem.out k (by rw [← HN.out]; exact hlt)
   have hroom := HRoom.out k (by rw [← HN.out]; exact hlt)
   rw [J.out.len] at hroom
   obtain ⟨gp, fp, hpe0, hpc0, _, _⟩ := HWp.out.mem.resolve_left (by have := HWp.out.le; omega)
   have cp := (G1.out.trans KG.out).cell (hpc0 k _ (pv_at ps (by rw [← HN.out]; exact hlt))) (by simp)
   obtain ⟨bp, op, hpe, _, hpc⟩ := hxP
   rw [hpe] at cp
   have HSt := Lib.hid (esn_take ps (k := k) (by rw [← HN.out]; exact hlt))
   generalize (ps.getD k default).2 = x at *
   clear hpe
   subst hpe0
   have PX : Hid (∀ j u, x.c[j]? = some u → w1.cell? ⟨bp, op + j, none⟩ = some u) := Lib.hid (fun j u hj => G1.out.cell (hpc j u hj) (by simp))
   have c8 := KG.out.cell (PX.out 8 _ x.c_8) (by simp)
   have hkl : x.ksl.l.length = x.kids.length := by rw [Pm.ksl_l]
   obtain ⟨⟨ka, kc, kl⟩, hks⟩ : ∃ z, z = x.ksl := ⟨_, rfl⟩
   rw [← hks] at c8 hkl
   simp only [Psl.v] at c8
   dsimp only at c8 hkl
   obtain ⟨kn, hkn⟩ : ∃ kn, kn = kl.length := ⟨_, rfl⟩
   rw [← hkn] at c8 hkl
   rw [← hkl] at hroom
   obtain ⟨q, hq⟩ : ∃ q, T = q + kn := ⟨T - kn, by omega⟩
   subst hq
   obtain ⟨z, hz⟩ : ∃ z, z = aloneT cs rv ((toldT cs rv (esn (ps.take k)) []).drop q) x.e := ⟨_, rfl⟩
   have HJ := Lib.hid J.out
   have hcw : q + kn ≤ c := J.out.win.le
   have hnext : toldT cs rv (esn (ps.take (k + 1))) [] = (toldT cs rv (esn (ps.take k)) []).take q ++ [z] := by
    rw [HSt.out, toldT_step, Pm.e_kn, ← hkl, J.out.len, Nat.add_sub_cancel, hz]
   have HS6 : ∀ (a6 : Ptr) (c6 : Nat) (w6 : World), Hid (Win 1 w6 a6 c6 (q + 1) (((toldT cs rv (esn (ps.take k)) []).take q).map (Value.int .i64) ++ [.int .i64 z])) → Hid (∀ j, bk a6 j → w1.heap.size ≤ j) → Hid (Told cs rv ps w1 w6 (k + 1) (q + 1) a6 c6) := fun a6 c6 w6 h1 h2 => Lib.hid (by
    have hl : ((toldT cs rv (esn (ps.take k)) []).take q).length = q := by rw [List.length_take, J.out.len]; omega
    refine ⟨by rw [hnext, List.length_append, hl]; rfl, fun y hy => ?_, by rw [hnext, List.map_append]; exact h1.out, h2.out⟩
    rw [hnext] at hy
    rcases List.mem_append.1 hy with hy | hy
    ·exact J.out.tr y (List.mem_of_mem_take hy)
    ·rw [List.mem_singleton.1 hy, hz]
     exact aloneT_is hxN (fun t ht => J.out.tr t (List.mem_of_mem_drop ht)) (by rw [List.length_drop, J.out.len, Pm.e_kn, ← hkl]; omega))
   have HS6 := Lib.hid HS6
   have JL := Lib.hid J.out.la
   have JF : Hid (Win 1 wr a c q (((toldT cs rv (esn (ps.take k)) []).take q).map (Value.int .i64))) := Lib.hid (by
    have h := J.out.win
    rw [← List.take_append_drop q (toldT cs rv (esn (ps.take k)) []), List.map_append] at h
    exact h.cut (by omega) (by rw [List.length_map, List.length_take, J.out.len]; omega))
   have hkl3 : ((toldT cs rv (esn (ps.take k)) []).drop q).length = kn := by rw [List.length_drop, J.out.len]; omega
   have HAl0 : Hid (∀ (kad : Option Addr) (kcap : Nat), (kn = 0 ∨ ∃ g f, a = some ⟨g, f, none⟩ ∧ kad = some ⟨g, f + q, none⟩) → ∀ W, wr.grownBy W none → Calls Try.prog 49 #[.agg #[.map (some mb), .slice (some ⟨gp, fp, none⟩) n pcap], x.v, .slice kad kn kcap, .slice ra rn rcap] W fun e w' => e = .returned (.int .i64 z) ∧ W.grownBy w' none) := Lib.hid (fun kad kcap hk1 W hWg => by
    have hi : IntsAt .i64 W kad ((toldT cs rv (esn (ps.take k)) []).drop q) := by
     refine ⟨by rw [hkl3]; have := J.out.win.max; unfold maxLen at this; omega, ?_⟩
     rcases hk1 with h0 | ⟨g, f, rfl, rfl⟩
     ·exact .inl (List.eq_nil_of_length_eq_zero (by rw [hkl3]; exact h0))
     ·by_cases h0 : kn = 0
      ·exact .inl (List.eq_nil_of_length_eq_zero (by rw [hkl3]; exact h0))
      ·obtain ⟨g', f', e', hc', _, _⟩ := (J.out.win.keepG hWg).mem.resolve_left (by omega)
       cases e'
       refine .inr ⟨g, f + q, rfl, (J.out.win.keepG hWg).lt g (by rw [bk_some]), fun i hi => ?_⟩
       rw [hkl3] at hi
       rw [Nat.add_assoc]
       refine hc' (q + i) _ ?_
       have hlt : q + i < (toldT cs rv (esn (ps.take k)) []).length := by rw [J.out.len]; omega
       rw [List.getElem?_map, List.getElem?_eq_getElem hlt, List.getD, List.getElem?_drop, List.getElem?_eq_getElem hlt]
       rfl
    have h := HAln.out _ kad kcap W ((G1.out.trans KG.out).trans hWg) hi (fun t ht => J.out.tr t (List.mem_of_mem_drop ht)) x hxS hxN (by rw [hkl3, hkl])
    rw [hkl3, ← hz] at h
    exact h)
   have hwm : IntKind.i64.wrap (q : Int) = q := IntWalk.i64_in _ (by omega)
   have hsub : ((q + kn : Nat) : Int) - kn = q := by omega
   have i0 : (0 : Int) ≤ k := by omega
   have i1 : (k : Int) < n := by omega
   clear hnext hkl3 HJ hxS hxN hkl hks hkn hroom hpc0 hpc hz
   have hqc : (q : Int) ≤ c := by omega
   have hqT : (q : Int) ≤ ((q + kn : Nat) : Int) := by omega
   go_upto_region 6 with fail
   clear c8 cp i0 i1 hwm hsub
   by_cases hcq : c = q
   ·obtain rfl : kn = 0 := by omega
    subst hcq
    refine wp_region_held_drew (S := (fun W => Hid (w1.grownBy W none))) (by kernel_rfl) (Lib.hid (grown_drewT KG.out)) (fun hHeld => ?_)
    obtain ⟨wd, hwd⟩ : ∃ wd, wd = wr.drew := ⟨_, rfl⟩
    have GD : Hid (wr.grownBy wd none) := Lib.hid (by rw [hwd]; exact grown_drewT (grown_reflX wr none))
    rw [← hwd] at hHeld ⊢
    clear hwd
    refine TKA (i := 3) (v := .agg #[.map (some mb), .slice (some ⟨gp, fp, none⟩) n pcap]) rfl (yieldsIf_load_mid (by rfl) _ _ rfl w.heap.size 0 rfl _ _ (fun W hS => range_rowD (blkD hS.out TS.out)) Try.underlying72 rfl sv_size) ?_
    simp only [Act.put, List.getElem_toArray, List.getElem_cons_succ, List.getElem_cons_zero, List.size_toArray, List.length_cons, List.length_nil, Nat.reduceAdd, Array.replicate, List.replicate, List.setIfInBounds_toArray, List.set_cons_zero, List.set_cons_succ]
    refine TKB (i := 0) (v := ?vaz) rfl ?yaz ?raz
    case yaz => (intro w hSw; (try dsimp only at hSw); go_simp; try with_reducible rfl)
    simp only [Act.put, List.getElem_toArray, List.getElem_cons_zero, List.setIfInBounds_toArray, List.set_cons_zero, List.set_cons_succ]
    refine TKB (i := 1) (v := ?vbz) rfl ?ybz ?rbz
    case ybz => (intro w hSw; (try dsimp only at hSw); go_simp; try with_reducible rfl)
    simp only [Act.put, List.getElem_toArray, List.getElem_cons_succ, List.getElem_cons_zero, List.setIfInBounds_toArray, List.set_cons_zero, List.set_cons_succ]
    refine TKB (i := 2) (v := ?vcz) rfl ?ycz ?rcz
    case ycz => (intro w hSw; (try dsimp only at hSw); go_simp; try with_reducible rfl)
    simp only [Act.put, List.getElem_toArray, List.getElem_cons_succ, List.getElem_cons_zero, List.setIfInBounds_toArray, List.set_cons_zero, List.set_cons_succ]
    refine TKB (i := 4) (v := ?vdz) rfl ?ydz ?rdz
    case ydz => (intro w hSw; (try dsimp only at hSw); go_simp; try with_reducible rfl)
    simp only [Act.put, List.getElem_toArray, List.getElem_cons_succ, List.getElem_cons_zero, List.setIfInBounds_toArray, List.set_cons_zero, List.set_cons_succ]
    refine TKB (i := 5) (v := ?vez) rfl ?yez ?rez
    case yez => (intro w hSw; (try dsimp only at hSw); go_simp; try with_reducible rfl)
    simp only [Act.put, List.getElem_toArray, List.getElem_cons_succ, List.getElem_cons_zero, List.setIfInBounds_toArray, List.set_cons_zero, List.set_cons_succ]
    refine TKA (i := 6) (v := .agg x.c.toArray) rfl (yieldsIf_load_mid (by rfl) _ _ rfl bp op rfl x.c _ (fun W hS j u hj => hS.out.cell (PX.out j u hj) (by simp)) Try.underlying34 rfl (by rw [Pm.c_len]; exact pred_size)) ?_
    simp only [Act.put, List.getElem_toArray, List.getElem_cons_succ, List.getElem_cons_zero, List.setIfInBounds_toArray, List.set_cons_zero, List.set_cons_succ]
    refine TKB (i := 7) (v := ?vfz) rfl ?yfz ?rfz
    case yfz => (intro w hSw; (try dsimp only at hSw); go_simp; try with_reducible rfl)
    simp only [Act.put, List.getElem_toArray, List.getElem_cons_succ, List.getElem_cons_zero, List.setIfInBounds_toArray, List.set_cons_zero, List.set_cons_succ]
    refine TKB (i := 8) (v := ?vgz) rfl ?ygz ?rgz
    case ygz => (intro w hSw; (try dsimp only at hSw); go_simp; try with_reducible rfl)
    simp only [Act.put, List.getElem_toArray, List.getElem_cons_succ, List.getElem_cons_zero, List.setIfInBounds_toArray, List.set_cons_zero, List.set_cons_succ]
    refine TKB (i := 9) (v := ?vhz) rfl ?yhz ?rhz
    case yhz => (intro w hSw; (try dsimp only at hSw); go_simp; (try rw [if_pos (show (q : Int) ≤ (q : Int) + (kn : Int) by omega)]); try with_reducible rfl)
    simp only [Act.put, List.getElem_toArray, List.getElem_cons_succ, List.getElem_cons_zero, List.setIfInBounds_toArray, List.set_cons_zero, List.set_cons_succ]
    refine TKB (i := 10) (v := ?viz) rfl ?yiz ?riz
    case yiz => (intro w hSw; (try dsimp only at hSw); go_simp; try with_reducible rfl)
    simp only [Act.put, List.getElem_toArray, List.getElem_cons_succ, List.getElem_cons_zero, List.setIfInBounds_toArray, List.set_cons_zero, List.set_cons_succ]
    refine RD1 (i := 11) rfl (fun K' hK => ?_)
    go_simp
    go_at_call 49
    refine (HAl0.out _ _ (by first | exact .inl rfl | exact .inr ⟨_, _, rfl, rfl⟩) _ GD.out).mono ?_
    rintro e w5 ⟨rfl, hg⟩
    have Z5 : Hid (w1.grownBy w5 none) := Lib.hid ((KG.out.trans GD.out).trans hg)
    have W5 := Lib.hid (JF.out.keepG (GD.out.trans hg))
    have S5 : Hid (wr.heap.size ≤ w5.heap.size) := Lib.hid (GD.out.trans hg).size
    clear hg
    refine hK.out _ _ Z5 (fun hHeld => ?_)
    clear hK K'
    simp only [List.setIfInBounds_toArray, List.set_cons_zero, List.set_cons_succ]
    refine RD1 (i := 12) rfl (fun K' hK => ?_)
    go_simp
    obtain ⟨wb, hwb⟩ : ∃ wb, wb = w5.alloc (.cells #[.int .i64 z] 43) := ⟨_, rfl⟩
    have gb : w5.grownBy wb none := by rw [hwb]; exact World.grownBy_alloc _ _ none
    have ZB : Hid (w1.grownBy wb none) := Lib.hid (Z5.out.trans gb)
    have WB := Lib.hid (W5.out.keepG gb)
    have NB : Hid (wb.heap[w5.heap.size]? = some (.cells #[.int .i64 z] 43 (0, 0))) := Lib.hid (by rw [hwb]; exact heap_alloc_new w5 _)
    have FB : Hid (wr.heap.size ≤ wb.heap.size) := Lib.hid (Nat.le_trans S5.out gb.size)
    rw [← hwb]
    clear hwb gb
    refine hK.out _ _ ZB (fun hHeld => ?_)
    clear hK K'
    simp only [List.setIfInBounds_toArray, List.set_cons_zero, List.set_cons_succ]
    refine RD1 (i := 13) rfl (fun K' hK => ?_)
    refine wp_append_winA (.tmp 26) (.tmp 36) trS_el (by rfl) WB.out (by rfl) (some ⟨w5.heap.size, 0, none⟩) 1 1 (by rfl) [.int .i64 z] (fun e => by cases e) rfl (by omega) (fun ad e => by cases e; exact World.news_of_block NB.out) (by simp [Value.oneCell']) ?_
    intro a6 c6 w6 z6 o6 b6 _
    have Z6 : Hid (w1.grownBy w6 none) := Lib.hid (grown_onlyN ZB.out o6 JL.out)
    have W6 := Lib.hid z6
    have L6 : Hid (∀ j, bk a6 j → w1.heap.size ≤ j) := Lib.hid (fun j hj => (b6 j hj).elim (JL.out j) (fun e => by have := ZB.out.size; omega))
    clear z6 o6 b6
    refine hK.out _ _ Z6 (fun hHeld => ?_)
    clear hK K'
    simp only [Act.put, List.getElem_toArray, List.getElem_cons_succ, List.getElem_cons_zero, List.setIfInBounds_toArray, List.set_cons_zero, List.set_cons_succ]
    refine TKB (i := 14) (v := ?vjz) rfl ?yjz ?rjz
    case yjz => (intro w hSw; (try dsimp only at hSw); go_simp; try with_reducible rfl)
    simp only [Act.put, List.getElem_toArray, List.getElem_cons_succ, List.getElem_cons_zero, List.setIfInBounds_toArray, List.set_cons_zero, List.set_cons_succ]
    refine wpAnyH_done (by kernel_rfl) ?_ _
    go_wp2_with fail
    go_roundw
    case rel => exact ⟨k + 1, c + 1, a6, c6, rfl, by go_num, by omega, by omega, Z6, HS6.out a6 c6 w6 W6 L6⟩
    case measure => simp [intOf]; omega
   ·obtain ⟨g, f, rfl, _, _, _⟩ := J.out.win.mem.resolve_left (by omega)
    have hcq2 : (c = q) = False := by simp [hcq]
    refine wp_region_held_drew (S := (fun W => Hid (w1.grownBy W none))) (by kernel_rfl) (Lib.hid (grown_drewT KG.out)) (fun hHeld => ?_)
    obtain ⟨wd, hwd⟩ : ∃ wd, wd = wr.drew := ⟨_, rfl⟩
    have GD : Hid (wr.grownBy wd none) := Lib.hid (by rw [hwd]; exact grown_drewT (grown_reflX wr none))
    rw [← hwd] at hHeld ⊢
    clear hwd
    refine TKA (i := 3) (v := .agg #[.map (some mb), .slice (some ⟨gp, fp, none⟩) n pcap]) rfl (yieldsIf_load_mid (by rfl) _ _ rfl w.heap.size 0 rfl _ _ (fun W hS => range_rowD (blkD hS.out TS.out)) Try.underlying72 rfl sv_size) ?_
    simp only [Act.put, List.getElem_toArray, List.getElem_cons_succ, List.getElem_cons_zero, List.size_toArray, List.length_cons, List.length_nil, Nat.reduceAdd, Array.replicate, List.replicate, List.setIfInBounds_toArray, List.set_cons_zero, List.set_cons_succ]
    refine TKB (i := 0) (v := ?vkz) rfl ?ykz ?rkz
    case ykz => (intro w hSw; (try dsimp only at hSw); go_simp; try with_reducible rfl)
    simp only [Act.put, List.getElem_toArray, List.getElem_cons_zero, List.setIfInBounds_toArray, List.set_cons_zero, List.set_cons_succ]
    refine TKB (i := 1) (v := ?vlz) rfl ?ylz ?rlz
    case ylz => (intro w hSw; (try dsimp only at hSw); go_simp; try with_reducible rfl)
    simp only [Act.put, List.getElem_toArray, List.getElem_cons_succ, List.getElem_cons_zero, List.setIfInBounds_toArray, List.set_cons_zero, List.set_cons_succ]
    refine TKB (i := 2) (v := ?vmz) rfl ?ymz ?rmz
    case ymz => (intro w hSw; (try dsimp only at hSw); go_simp; try with_reducible rfl)
    simp only [Act.put, List.getElem_toArray, List.getElem_cons_succ, List.getElem_cons_zero, List.setIfInBounds_toArray, List.set_cons_zero, List.set_cons_succ]
    refine TKB (i := 4) (v := ?vnz) rfl ?ynz ?rnz
    case ynz => (intro w hSw; (try dsimp only at hSw); go_simp; try with_reducible rfl)
    simp only [Act.put, List.getElem_toArray, List.getElem_cons_succ, List.getElem_cons_zero, List.setIfInBounds_toArray, List.set_cons_zero, List.set_cons_succ]
    refine TKB (i := 5) (v := ?voz) rfl ?yoz ?roz
    case yoz => (intro w hSw; (try dsimp only at hSw); go_simp; try with_reducible rfl)
    simp only [Act.put, List.getElem_toArray, List.getElem_cons_succ, List.getElem_cons_zero, List.setIfInBounds_toArray, List.set_cons_zero, List.set_cons_succ]
    refine TKA (i := 6) (v := .agg x.c.toArray) rfl (yieldsIf_load_mid (by rfl) _ _ rfl bp op rfl x.c _ (fun W hS j u hj => hS.out.cell (PX.out j u hj) (by simp)) Try.underlying34 rfl (by rw [Pm.c_len]; exact pred_size)) ?_
    simp only [Act.put, List.getElem_toArray, List.getElem_cons_succ, List.getElem_cons_zero, List.setIfInBounds_toArray, List.set_cons_zero, List.set_cons_succ]
    refine TKB (i := 7) (v := ?vpz) rfl ?ypz ?rpz
    case ypz => (intro w hSw; (try dsimp only at hSw); go_simp; try with_reducible rfl)
    simp only [Act.put, List.getElem_toArray, List.getElem_cons_succ, List.getElem_cons_zero, List.setIfInBounds_toArray, List.set_cons_zero, List.set_cons_succ]
    refine TKB (i := 8) (v := ?vqz) rfl ?yqz ?rqz
    case yqz => (intro w hSw; (try dsimp only at hSw); go_simp; try with_reducible rfl)
    simp only [Act.put, List.getElem_toArray, List.getElem_cons_succ, List.getElem_cons_zero, List.setIfInBounds_toArray, List.set_cons_zero, List.set_cons_succ]
    refine TKB (i := 9) (v := ?vrz) rfl ?yrz ?rrz
    case yrz => (intro w hSw; (try dsimp only at hSw); go_simp; (try rw [if_pos (show (q : Int) ≤ (q : Int) + (kn : Int) by omega)]); try with_reducible rfl)
    simp only [Act.put, List.getElem_toArray, List.getElem_cons_succ, List.getElem_cons_zero, List.setIfInBounds_toArray, List.set_cons_zero, List.set_cons_succ]
    refine TKB (i := 10) (v := ?vsz) rfl ?ysz ?rsz
    case ysz => (intro w hSw; (try dsimp only at hSw); go_simp; try with_reducible rfl)
    simp only [Act.put, List.getElem_toArray, List.getElem_cons_succ, List.getElem_cons_zero, List.setIfInBounds_toArray, List.set_cons_zero, List.set_cons_succ]
    refine RD1 (i := 11) rfl (fun K' hK => ?_)
    go_simp
    go_at_call 49
    refine (HAl0.out _ _ (by first | exact .inl rfl | exact .inr ⟨_, _, rfl, rfl⟩) _ GD.out).mono ?_
    rintro e w5 ⟨rfl, hg⟩
    have Z5 : Hid (w1.grownBy w5 none) := Lib.hid ((KG.out.trans GD.out).trans hg)
    have W5 := Lib.hid (JF.out.keepG (GD.out.trans hg))
    have S5 : Hid (wr.heap.size ≤ w5.heap.size) := Lib.hid (GD.out.trans hg).size
    clear hg
    refine hK.out _ _ Z5 (fun hHeld => ?_)
    clear hK K'
    simp only [List.setIfInBounds_toArray, List.set_cons_zero, List.set_cons_succ]
    refine RD1 (i := 12) rfl (fun K' hK => ?_)
    go_simp
    obtain ⟨wb, hwb⟩ : ∃ wb, wb = w5.alloc (.cells #[.int .i64 z] 43) := ⟨_, rfl⟩
    have gb : w5.grownBy wb none := by rw [hwb]; exact World.grownBy_alloc _ _ none
    have ZB : Hid (w1.grownBy wb none) := Lib.hid (Z5.out.trans gb)
    have WB := Lib.hid (W5.out.keepG gb)
    have NB : Hid (wb.heap[w5.heap.size]? = some (.cells #[.int .i64 z] 43 (0, 0))) := Lib.hid (by rw [hwb]; exact heap_alloc_new w5 _)
    have FB : Hid (wr.heap.size ≤ wb.heap.size) := Lib.hid (Nat.le_trans S5.out gb.size)
    rw [← hwb]
    clear hwb gb
    refine hK.out _ _ ZB (fun hHeld => ?_)
    clear hK K'
    simp only [List.setIfInBounds_toArray, List.set_cons_zero, List.set_cons_succ]
    refine RD1 (i := 13) rfl (fun K' hK => ?_)
    refine wp_append_winA (.tmp 26) (.tmp 36) trS_el (by rfl) WB.out (by rfl) (some ⟨w5.heap.size, 0, none⟩) 1 1 (by rfl) [.int .i64 z] (fun e => by cases e) rfl (by omega) (fun ad e => by cases e; exact World.news_of_block NB.out) (by simp [Value.oneCell']) ?_
    intro a6 c6 w6 z6 o6 b6 _
    have Z6 : Hid (w1.grownBy w6 none) := Lib.hid (grown_onlyN ZB.out o6 JL.out)
    have W6 := Lib.hid z6
    have L6 : Hid (∀ j, bk a6 j → w1.heap.size ≤ j) := Lib.hid (fun j hj => (b6 j hj).elim (JL.out j) (fun e => by have := ZB.out.size; omega))
    clear z6 o6 b6
    refine hK.out _ _ Z6 (fun hHeld => ?_)
    clear hK K'
    simp only [Act.put, List.getElem_toArray, List.getElem_cons_succ, List.getElem_cons_zero, List.setIfInBounds_toArray, List.set_cons_zero, List.set_cons_succ]
    refine TKB (i := 14) (v := ?vtz) rfl ?ytz ?rtz
    case ytz => (intro w hSw; (try dsimp only at hSw); go_simp; try with_reducible rfl)
    simp only [Act.put, List.getElem_toArray, List.getElem_cons_succ, List.getElem_cons_zero, List.setIfInBounds_toArray, List.set_cons_zero, List.set_cons_succ]
    refine wpAnyH_done (by kernel_rfl) ?_ _
    go_wp2_with fail
    go_roundw
    case rel => exact ⟨k + 1, q + 1, a6, c6, rfl, by go_num, by omega, by omega, Z6, HS6.out a6 c6 w6 W6 L6⟩
    case measure => simp [intOf]; omega
  ·obtain rfl : n = k := by omega
   have hE : toldT cs rv (esn (ps.take n)) [] = [res] := by rw [HN.out, List.take_length]; exact HEnd.out
   have hT : T = 1 := by have := J.out.len; rw [hE] at this; exact this.symm
   subst hT
   have hw := J.out.win
   rw [hE] at hw
   obtain ⟨g, f, rfl, hc, _, _⟩ := hw.mem.resolve_left (by have := hw.le; omega)
   have c0 := hc 0 (.int .i64 res) rfl
   rw [Nat.add_zero] at c0
   have GF := Lib.hid (G1.out.trans KG.out)
   clear hc hw hE J hlt hk hTk
   go_wp2_with fail
   go_ret
   exact ⟨rfl, GF.out⟩
set_option maxRecDepth 100000 in
set_option maxHeartbeats 6400000 in
theorem sTruth_any (TN : ByteArray) (ta : Option Addr) (tcap : Nat) (cs : List Cl) (TK : Int) (S : Nat → Prop) (X : Pm) (ra : Option Addr) (rcap : Nat) (rv : List Vv) (w : World) (hC : ColsAt w.heap.size w ta cs) (hs : ∀ c ∈ cs, c.n.size ≤ maxLen) (hl : cs.length ≤ 100000) (hX : PmS S w X) (hn : X.n ≤ 100000) (hnod : X.e.nod cs) (hV : VvAt w.heap.size w ra rv) (hf : ∀ v ∈ rv, (vlV v).fine) (hlen : rv.length = cs.length) :
  Calls Try.prog 10 #[.agg #[.string TN, .slice ta cs.length tcap, .int .i64 TK], X.v, .slice ra rv.length rcap] w fun e w' => e = .returned (.int .i64 (trP cs rv X.e)) ∧ w.grownBy w' none := by
 have HLd := Lib.hid (fun W (hW : w.grownBy W none) => laid_any TN ta tcap cs TK S X W ((hC.keep hW (by simp)).mono hW.size) hs hl (hX.keep (.of hW)) hn)
 have HTr := Lib.hid (fun mb pb pcap ps W (hW : w.grownBy W none) hps hM hWn hpt => struth_any mb pb pcap ps cs ra rcap rv S X W hps hM hWn hpt (hX.keep (.of hW)) hnod (by
  have h := congrArg List.length hps
  rw [List.length_map, Pm.alls_n] at h
  omega) ((hV.keep hW (by simp)).mono1 hW.size) hf hlen)
 obtain ⟨res, hres⟩ : ∃ res, res = trP cs rv X.e := ⟨_, rfl⟩
 rw [← hres] at HTr ⊢
 have hX1 := X.c_size
 have hX2 := X.c_all
 unfold Pm.v at HLd ⊢
 try unfold Pm.v at HTr
 obtain ⟨cx, hcx⟩ : ∃ cx, cx = X.c.toArray := ⟨_, rfl⟩
 rw [← hcx] at hX1 hX2 HLd ⊢
 try rw [← hcx] at HTr
 clear hres hcx hs hl hC hn hX hnod hV hf hlen
 generalize cs.length = cn at *
 generalize rv.length = rn at *
 have T1 := Lib.hid (alc2a w (.cells #[.string TN, .slice ta cn tcap, .int .i64 TK] 24) (.cells cx 34))
 have T2 := Lib.hid (alc2b w (.cells #[.string TN, .slice ta cn tcap, .int .i64 TK] 24) (.cells cx 34))
 have G1 := Lib.hid (gq_al (gq_al (grown_reflT w none) (.cells #[.string TN, .slice ta cn tcap, .int .i64 TK] 24)) (.cells cx 34))
 go_enter Try.func10, Try.ntmps10
 go_upto_region 1 with fail
 change Code.wp _ _ _ _ ((w.alloc (.cells #[.string TN, .slice ta cn tcap, .int .i64 TK] 24)).alloc (.cells cx 34))
 generalize (w.alloc (.cells #[.string TN, .slice ta cn tcap, .int .i64 TK] 24)).alloc (.cells cx 34) = w1 at *
 obtain ⟨⟨t0, t1, t2⟩, t3, t4, t5⟩ := boxD3 T1.out
 go_wp2_with (first
  | (refine wpList_load_row rfl 34 (.tmp 4) rfl (w.heap.size + 1) rfl 34 cx (0, 0) _ T2.out Try.underlying34 rfl (by rw [hX1]; exact pred_size) ?_)
  | fail)
 refine (HLd.out _ G1.out).mono ?_
 rintro e w2 ⟨⟨mb, pb, pcap, ps, rfl, hps, hM, hWn, hpt⟩, hg⟩
 have HT2 := Lib.hid (HTr.out mb pb pcap ps w2 (G1.out.trans hg) hps hM hWn hpt)
 have G2 := Lib.hid (G1.out.trans hg)
 clear hps hM hWn hpt hg HTr
 generalize ps.length = pn at *
 go_wp2_with fail
 refine (HT2.out).mono ?_
 rintro e w3 ⟨rfl, hg⟩
 have G3 := Lib.hid (G2.out.trans hg)
 clear hg
 go_wp2_with fail
 go_ret
 exact ⟨rfl, G3.out⟩
set_option maxRecDepth 100000 in
set_option maxHeartbeats 6400000 in
theorem sPasses_any (TN : ByteArray) (ta : Option Addr) (tcap : Nat) (cs : List Cl) (TK : Int) (S : Nat → Prop) (X : Pm) (ra : Option Addr) (rcap : Nat) (rv : List Vv) (w : World) (hC : ColsAt w.heap.size w ta cs) (hs : ∀ c ∈ cs, c.n.size ≤ maxLen) (hl : cs.length ≤ 100000) (hX : PmS S w X) (hn : X.n ≤ 100000) (hnod : X.e.nod cs) (hV : VvAt w.heap.size w ra rv) (hf : ∀ v ∈ rv, (vlV v).fine) (hlen : rv.length = cs.length) :
  Calls Try.prog 11 #[.agg #[.string TN, .slice ta cs.length tcap, .int .i64 TK], X.v, .slice ra rv.length rcap] w fun e w' => e = .returned (.bool (trP cs rv X.e == 1)) ∧ w.grownBy w' none := by
 have HLd := Lib.hid (fun W (hW : w.grownBy W none) => sTruth_any TN ta tcap cs TK S X ra rcap rv W ((hC.keep hW (by simp)).mono hW.size) hs hl (hX.keep (.of hW)) hn hnod ((hV.keep hW (by simp)).mono1 hW.size) hf hlen)
 have HTr := HLd
 obtain ⟨res, hres⟩ : ∃ res, res = trP cs rv X.e := ⟨_, rfl⟩
 rw [← hres] at HTr ⊢
 have hX1 := X.c_size
 have hX2 := X.c_all
 unfold Pm.v at HLd ⊢
 try unfold Pm.v at HTr
 obtain ⟨cx, hcx⟩ : ∃ cx, cx = X.c.toArray := ⟨_, rfl⟩
 rw [← hcx] at hX1 hX2 HLd ⊢
 try rw [← hcx] at HTr
 clear hres hcx hs hl hC hn hX hnod hV hf hlen
 generalize cs.length = cn at *
 generalize rv.length = rn at *
 have T1 := Lib.hid (alc2a w (.cells #[.string TN, .slice ta cn tcap, .int .i64 TK] 24) (.cells cx 34))
 have T2 := Lib.hid (alc2b w (.cells #[.string TN, .slice ta cn tcap, .int .i64 TK] 24) (.cells cx 34))
 have G1 := Lib.hid (gq_al (gq_al (grown_reflT w none) (.cells #[.string TN, .slice ta cn tcap, .int .i64 TK] 24)) (.cells cx 34))
 go_enter Try.func11, Try.ntmps11
 go_upto_region 1 with fail
 change Code.wp _ _ _ _ ((w.alloc (.cells #[.string TN, .slice ta cn tcap, .int .i64 TK] 24)).alloc (.cells cx 34))
 generalize (w.alloc (.cells #[.string TN, .slice ta cn tcap, .int .i64 TK] 24)).alloc (.cells cx 34) = w1 at *
 obtain ⟨⟨t0, t1, t2⟩, t3, t4, t5⟩ := boxD3 T1.out
 go_wp2_with (first
  | (refine wpList_load_row rfl 34 (.tmp 4) rfl (w.heap.size + 1) rfl 34 cx (0, 0) _ T2.out Try.underlying34 rfl (by rw [hX1]; exact pred_size) ?_)
  | fail)
 refine (HTr.out _ G1.out).mono ?_
 rintro e w2 ⟨rfl, hg⟩
 have G2 := Lib.hid (G1.out.trans hg)
 clear hg
 go_wp2_with fail
 go_ret
 exact ⟨rfl, G2.out⟩
end Go.Proofs.Ytfambadamebjjaa
namespace Go.Proofs.Ytfambadamebjjaa
open Go.RowKit
set_option linter.unusedVariables false
set_option linter.unusedSimpArgs false
theorem wpList_load_rowGs {P : Program} {ops : Array Oper} {rest : List Oper} {o : Oper} {a : Act} {w : World} {Q : Exit → Act → World → Prop} (hgd : Region.wanted o (yielded ops a.tmps) = true) (ty : TypeId) (x : Operand) (ho : o.op = .load ty x)
  (g : Nat) (hx : a.eval x = .pointer (some ⟨g, 0, none⟩)) (t : TypeId) (cs : Array Value) (fr : Nat × Nat) (d : TypeDesc) (hg : w.heap[g]? = some (.cells cs t fr))
  (hu : P.underlying ty = some d) (hd : (match d with | .struct _ | .array _ _ => true | _ => false) = true) (hi : (P.info? ty).map (·.size) = some cs.size)
  (h : wpList P ops Q rest (a.put o.dst (.agg cs)) w) : wpList P ops Q (o :: rest) a w :=
 wpList_step fun _ hK => by rw [if_pos hgd]; exact wp_load_row ty x ho g hx t cs fr d hg hu hd hi (hK _ _ h)
theorem wpList_load_midGs {P : Program} {ops : Array Oper} {rest : List Oper} {o : Oper} {a : Act} {w : World} {Q : Exit → Act → World → Prop} (hgd : Region.wanted o (yielded ops a.tmps) = true) (ty : TypeId) (x : Operand) (ho : o.op = .load ty x)
  (b f : Nat) (hx : a.eval x = .pointer (some ⟨b, f, none⟩)) (cs : List Value) (d : TypeDesc) (hc : w.rangeAt b f cs) (hu : P.underlying ty = some d) (hd : d.isRow = true) (hi : (P.info? ty).map (·.size) = some cs.length)
  (h : wpList P ops Q rest (a.put o.dst (.agg cs.toArray)) w) : wpList P ops Q (o :: rest) a w :=
 wpList_step fun _ hK => by rw [if_pos hgd]; exact wp_load_mid ty x ho b f hx cs d hc hu hd hi (hK _ _ h)
structure PrdOk (cs : List Cl) (x : Pm) (P : Prd) : Prop where
 nod : x.e.nod cs
 gd : x.e.gd
 w1 : x.e.w1
 n : x.n ≤ 1000
 k : x.e.e = P.e
theorem PrdOk.of {s : ByteArray} {cs : List Cl} {x : Pm} {Q : Qry} (hcs : ∀ c ∈ cs, c.n ≠ bE ∧ c.n.size ≤ maxLen) (h1 : predC cs x.e = 0) (hp : parseL s = .ok Q) (hr : Red Q) (he : x.e.e = Q.cond.e) : PrdOk cs x Q.cond := by
 have g3 : x.e.g3 := by rw [← Prd.g3_e, he, Prd.g3_e]; exact parseL_g3 hp
 refine ⟨predC_nod hcs x.e h1 g3, ?_, ?_, ?_, he⟩
 ·rw [← Prd.gd_e, he, Prd.gd_e]; exact parseL_gd hp
 ·rw [← Prd.w1_e, he, Prd.w1_e]; exact hr.w
 ·rw [Pm.n_e, ← Prd.n_e1, he, Prd.n_e1]; exact hr.n
theorem PrdOk.tr {cs : List Cl} {x : Pm} {P : Prd} (h : PrdOk cs x P) (rv : List Vv) : trP cs rv x.e = trP cs rv P := by
 rw [← trP_e, h.k, trP_e]
theorem names_of {l : List Cl} {t : Tb} (h : RightG [t]) : (∀ c ∈ t.l, c.n ≠ bE ∧ c.n.size ≤ maxLen) ∧ t.l.length ≤ 8 ∧ 1 ≤ t.l.length := by
 obtain ⟨⟨_, h1, h8⟩, ⟨_, _, _, hj⟩, _⟩ := h 0 (by simp)
 refine ⟨fun c hc => ?_, h8, h1⟩
 obtain ⟨j, hjl, rfl⟩ := List.getElem_of_mem hc
 have := (hj j hjl).1
 rw [show ([t].getD 0 default).l.getD j default = t.l[j] by show t.l.getD j default = _; rw [List.getD, List.getElem?_eq_getElem hjl]; rfl] at this
 unfold nameB at this
 simp only [Bool.and_eq_true, decide_eq_true_eq] at this
 refine ⟨fun e => ?_, by unfold maxLen; omega⟩
 rw [e] at this
 exact absurd this.1.1 (by show ¬ 0 < 0; omega)
theorem fine_of_good {v : Vv} (h : v.good = true) : (vlV v).fine := by
 refine ⟨h, ?_⟩
 have hg : goodB v.k v.n v.s = true := h
 unfold goodB at hg
 show v.s.size ≤ 60
 have he : v.s.toList.isEmpty = true → v.s.size ≤ 60 := fun e => by
  have h2 := toList_nil e
  have h3 : v.s.size = v.s.data.toList.length := (Array.length_toList (xs := v.s.data)).symm
  rw [h3, h2]; exact Nat.zero_le _
 split at hg
 ·exact he (Bool.and_eq_true _ _ ▸ hg).2
 split at hg
 ·exact he (Bool.and_eq_true _ _ ▸ hg).2
 split at hg
 ·exact he hg
 split at hg
 ·simp only [Bool.and_eq_true, decide_eq_true_eq] at hg
  exact hg.2
 ·cases hg
theorem Fits.fine {cs : List Cl} {rv : List Vv} (h : Fits cs rv) : (∀ v ∈ rv, (vlV v).fine) ∧ rv.length = cs.length := by
 refine ⟨fun v hv => ?_, h.1⟩
 obtain ⟨i, hi, rfl⟩ := List.getElem_of_mem hv
 have := h.2 i (by rw [← h.1]; exact hi)
 rw [List.getD_eq_getElem?_getD (l := rv), List.getElem?_eq_getElem hi] at this
 unfold holdsB at this
 rw [Bool.and_eq_true] at this
 exact fine_of_good this.1
theorem rws_one {W : World} {b : Nat} {ra : Option Addr} {rcap : Nat} {rv : List Vv} {T : TypeId} (h : W.heap[b]? = some (.cells #[.slice ra rv.length rcap] T (0, 0))) (hV : VvAt W.heap.size W ra rv) (hc : rv.length ≤ rcap) : RwsAt W.heap.size W (some ⟨b, 0, none⟩) [⟨ra, rcap, rv⟩] := by
 refine ⟨by simp, fun x hx => by rw [List.mem_singleton.1 hx]; exact ⟨hV, hc⟩, .inr ⟨b, 0, rfl, (Array.getElem?_eq_some_iff.1 h).1, fun i hi => ?_⟩⟩
 obtain rfl : i = 0 := by simp at hi; omega
 exact cell_of_row _ _ 0 _ _ _ h
theorem rgt_one {l : List Cl} {x : Rwm} (h : RgtR l [x]) : Fits l x.l := h.2 0 (by simp)
end Go.Proofs.Ytfambadamebjjaa
