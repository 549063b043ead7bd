/- slices.Reverse at predicates; lists of predicates in a window. preds: all that stand in a predicate, Kids ahead. How many literals a text's predicates have; the literals of a predicate. -/
import Derived.Test.YtjaclmoobfeikaaGreatDoorZl36
import Derived.Test.YtjaclmoobfeikaaGreatDoorZl24
import Derived.Deep.RegionHeld
import Derived.Test.YtjaclmoobfeikaaGreatDoorZl37
namespace Go.Proofs.YtjaclmoobfeikaaGreatDoor
open Go.RowKit

mutual
/-- All that stand in a predicate, it too, Kids ahead. -/
def Pm.alls : Pm → List Pm
  | .mk k c r v o la lc l ka kc ks p => Pm.allsL ks ++ [.mk k c r v o la lc l ka kc ks p]
def Pm.allsL : List Pm → List Pm
  | [] => []
  | x :: r => x.alls ++ Pm.allsL r
end
theorem Pm.alls_eq : ∀ x : Pm, x.alls = Pm.allsL x.kids ++ [x] | .mk .. => by rw [Pm.alls]; rfl
theorem Pm.allsL_app : ∀ l m : List Pm, Pm.allsL (l ++ m) = Pm.allsL l ++ Pm.allsL m
  | [], m => rfl
  | x :: l, m => by rw [List.cons_append, Pm.allsL, Pm.allsL, Pm.allsL_app l m, List.append_assoc]
mutual
theorem Pm.alls_e : ∀ x : Pm, x.alls.map Pm.e = x.e.alls
  | .mk k c r v o la lc l ka kc ks p => by
    rw [Pm.alls, List.map_append, Pm.allsL_e ks, Pm.e, Prd.alls]; simp [Pm.e]
theorem Pm.allsL_e : ∀ l : List Pm, (Pm.allsL l).map Pm.e = Prd.allsL (Pm.es l)
  | [] => rfl
  | x :: r => by rw [Pm.allsL, List.map_append, Pm.alls_e x, Pm.allsL_e r, Pm.es, Prd.allsL]
end
mutual
theorem Pm.alls_n : ∀ x : Pm, x.alls.length = x.n
  | .mk k c r v o la lc l ka kc ks p => by
    rw [Pm.alls, List.length_append, Pm.allsL_n ks, Pm.n]; simp; omega
theorem Pm.allsL_n : ∀ l : List Pm, (Pm.allsL l).length = Pm.ns l
  | [] => rfl
  | x :: r => by rw [Pm.allsL, List.length_append, Pm.alls_n x, Pm.allsL_n r, Pm.ns]
end
mutual
theorem PmS.alls {S : Nat → Prop} {w : World} : ∀ {x : Pm}, PmS S w x → ∀ y ∈ x.alls, PmS S w y
  | .mk k c r v o la lc l ka kc ks p, h, y, hy => by
    rw [Pm.alls, List.mem_append, List.mem_singleton] at hy
    rcases hy with hy | rfl
    · exact PmSs.alls h.2.2.2.2 y hy
    · exact h
theorem PmSs.alls {S : Nat → Prop} {w : World} : ∀ {l : List Pm}, PmSs S w l → ∀ y ∈ Pm.allsL l, PmS S w y
  | [], _, y, hy => by simp [Pm.allsL] at hy
  | x :: r, h, y, hy => by
    rw [Pm.allsL, List.mem_append] at hy
    rcases hy with hy | hy
    · exact PmS.alls h.1 y hy
    · exact PmSs.alls h.2 y hy
end
/-- One element of a window is another one. -/
theorem Win.setE {w : World} {g off cap n : Nat} {l : List Pm} (h : Win 10 w (some ⟨g, off, Option.none⟩) cap n (l.flatMap Pm.c)) (hn : n = l.length) (p : Nat) (hp : p < n) (x : Pm) : Win 10 (w.setCells g (off + p * 10) x.c) (some ⟨g, off, Option.none⟩) cap n ((l.set p x).flatMap Pm.c) := by
  have hle := h.le
  refine h.put (by omega) (by rw [Pm.c_len]; have := Nat.mul_le_mul_right 10 (show p + 1 ≤ cap by omega); omega) (by rw [pm_len, List.length_set, ← hn]) hle (fun j u hj => ?_)
  obtain ⟨i, r, h1, rfl, h3, h4⟩ := flat_of Pm.c 10 Pm.c_len _ _ _ hj
  rw [List.length_set] at h1
  by_cases e : i = p
  · subst e
    left
    rw [List.getD_eq_getElem?_getD, List.getElem?_set_self (by omega)] at h4
    exact ⟨by omega, by rw [show i * 10 + r - i * 10 = r by omega]; exact h4⟩
  · right
    rw [List.getD_eq_getElem?_getD, List.getElem?_set_ne (by omega), ← List.getD_eq_getElem?_getD] at h4
    refine ⟨?_, pm_at l i h1 r u h4⟩
    rw [Pm.c_len]
    rcases Nat.lt_or_ge i p with hlt | hge
    · left; have := Nat.mul_le_mul_right 10 (show i + 1 ≤ p by omega); omega
    · right; have := Nat.mul_le_mul_right 10 (show p + 1 ≤ i by omega); omega
/-- How far a list is turned round. -/
def Turned (l cur : List Pm) (i : Nat) : Prop := cur.length = l.length ∧ ∀ t, t < l.length → cur.getD t default = if t < i ∨ l.length ≤ t + i then l.getD (l.length - 1 - t) default else l.getD t default
theorem Turned.start (l : List Pm) : Turned l l 0 := ⟨rfl, fun t ht => by rw [if_neg (by omega)]⟩
theorem Turned.all {l cur : List Pm} {i : Nat} (h : Turned l cur i) (hi : l.length ≤ 2 * i + 1) : cur = l.reverse := by
  refine List.ext_getElem (by rw [h.1, List.length_reverse]) fun t h1 h2 => ?_
  have ht : t < l.length := by rw [← h.1]; exact h1
  have := h.2 t ht
  rw [List.getD_eq_getElem?_getD, List.getElem?_eq_getElem h1, Option.getD_some] at this
  rw [this, List.getElem_reverse]
  split
  · rw [List.getD_eq_getElem?_getD, List.getElem?_eq_getElem (by omega), Option.getD_some]
  · have e : t = l.length - 1 - t := by omega
    rw [List.getD_eq_getElem?_getD, List.getElem?_eq_getElem ht, Option.getD_some]
    congr 1
theorem getD_set {α : Type} [Inhabited α] (l : List α) (p t : Nat) (x : α) (hp : p < l.length) : (l.set p x).getD t default = if p = t then x else l.getD t default := by
  rw [List.getD_eq_getElem?_getD, List.getElem?_set, List.getD_eq_getElem?_getD]
  by_cases e : p = t
  · subst e; simp [hp]
  · simp [e]
theorem Turned.step {l cur : List Pm} {i : Nat} (h : Turned l cur i) (hi : 2 * i + 1 < l.length) : Turned l ((cur.set i (cur.getD (l.length - 1 - i) default)).set (l.length - 1 - i) (cur.getD i default)) (i + 1) := by
  refine ⟨by simp [h.1], fun t ht => ?_⟩
  rw [getD_set _ _ _ _ (by rw [List.length_set, h.1]; omega), getD_set _ _ _ _ (by rw [h.1]; omega)]
  have e1 := h.2 (l.length - 1 - i) (by omega)
  have e2 := h.2 i (by omega)
  rw [if_neg (by omega)] at e1 e2
  by_cases a : l.length - 1 - i = t
  · rw [if_pos a, e2, if_pos (by omega)]
    congr 1; omega
  · rw [if_neg a]
    by_cases b : i = t
    · rw [if_pos b, e1, if_pos (by omega), b]
    · rw [if_neg b, h.2 t ht]
      by_cases c : t < i ∨ l.length ≤ t + i
      · rw [if_pos c, if_pos (by omega)]
      · rw [if_neg c, if_neg (by omega)]
set_option maxRecDepth 100000 in
set_option maxHeartbeats 3200000 in
theorem reverse_any (l : List Pm) (a : Option Addr) (cap n : Nat) (w : World) (h : Win 10 w a cap n (l.flatMap Pm.c)) (hn : n = l.length) (hl : n ≤ 1000000) :
    Calls Tryz.prog 41 #[.slice a n cap] w fun e w' => e = .returned (.tuple #[]) ∧ Win 10 w' a cap n (l.reverse.flatMap Pm.c) ∧ Only (bk a) w w' := by
  have H0 : Hid (∃ cur, Turned l cur 0 ∧ Win 10 w a cap n (cur.flatMap Pm.c) ∧ Only (bk a) w w) := Lib.hid ⟨l, Turned.start l, h, Only.refl _ _⟩
  have HN := Lib.hid hn
  clear h hn
  go_enter Tryz.func41, Tryz.ntmps41
  go_wp2_with fail
  go_loopw [2, 3] (fun s2 s3 wr => ∃ (i : Nat) (j : Int), s2 = .int .i64 i ∧ s3 = .int .i64 j ∧ i ≤ n ∧ j + i ≤ (n : Int) - 1 ∧ (n : Int) - 1 ≤ j + i ∧ Hid (∃ cur, Turned l cur i ∧ Win 10 wr a cap n (cur.flatMap Pm.c) ∧ Only (bk a) w wr)) (fun s2 _ _ => n - (intOf s2).toNat)
  case atStart => exact ⟨0, (n : Int) - 1, rfl, by go_num, by omega, by omega, by omega, H0⟩
  case round =>
    obtain ⟨i, j, rfl, rfl, hi, hj1, hj2, Q⟩ := hrel
    by_cases hlt : (i : Int) < j
    · obtain ⟨jn, rfl⟩ : ∃ jn : Nat, j = jn := ⟨j.toNat, by omega⟩
      have hin : (i : Int) < n := by omega
      have hjn : (jn : Int) < n := by omega
      obtain ⟨cur, hT, hW, hO⟩ := Q.out
      obtain ⟨g, off, rfl, hc, hs, hf⟩ := hW.mem.resolve_left (by have := hW.le; omega)
      have hcl : n = cur.length := by rw [hT.1]; exact HN.out
      obtain ⟨x, hx⟩ : ∃ x, x = cur.getD i default := ⟨_, rfl⟩
      obtain ⟨y, hy⟩ : ∃ y, y = cur.getD jn default := ⟨_, rfl⟩
      have RX : Hid (wr.rangeAt g (off + i * 10) x.c) := Lib.hid fun k u hk => by
        rw [Nat.add_assoc]; exact hc _ _ (pm_at cur i (by omega) k u (by rw [← hx]; exact hk))
      have RY : Hid (wr.rangeAt g (off + jn * 10) y.c) := Lib.hid fun k u hk => by
        rw [Nat.add_assoc]; exact hc _ _ (pm_at cur jn (by omega) k u (by rw [← hy]; exact hk))
      have TI : Hid (wr.there g (off + i * 10) 10) := Lib.hid fun k hk => ⟨by rw [Nat.add_assoc]; exact hs _ (by have := hW.le; have := Nat.mul_le_mul_right 10 (show i + 1 ≤ cap by omega); omega), hf _⟩
      have W1 := Lib.hid ((hW.keepG (grown_drewT (grown_reflT wr none))).setE hcl i (by omega) y)
      have TJ : Hid ((wr.drew.setCells g (off + i * 10) y.c).there g (off + jn * 10) 10) := Lib.hid fun k hk => by
        obtain ⟨g', off', e, _, hs', hf'⟩ := W1.out.mem.resolve_left (by have := hW.le; omega)
        cases e
        exact ⟨by rw [Nat.add_assoc]; exact hs' _ (by have := hW.le; have := Nat.mul_le_mul_right 10 (show jn + 1 ≤ cap by omega); omega), hf' _⟩
      have W2 := Lib.hid (W1.out.setE (by rw [List.length_set]; exact hcl) jn (by omega) x)
      have HT2 : Hid (Turned l ((cur.set i y).set jn x) (i + 1)) := Lib.hid (by
        have := hT.step (by rw [← HN.out]; omega)
        rw [show l.length - 1 - i = jn by rw [← HN.out]; omega, ← hx, ← hy] at this
        exact this)
      have HO2 : Hid (Only (bk (some ⟨g, off, Option.none⟩)) w ((wr.drew.setCells g (off + i * 10) y.c).setCells g (off + jn * 10) x.c)) := Lib.hid (((hO.trans (.of_none (M := fun _ => False) (grown_drewT (grown_reflT wr none))) (fun _ h => h.elim)).trans ((only_setCells g y.c _ wr.drew).mono (fun k _ e => by rw [bk_some]; exact e)) (fun _ h => .inl h)).trans ((only_setCells g x.c _ _).mono (fun k _ e => by rw [bk_some]; exact e)) (fun _ h => .inl h))
      clear hT hW hO hc hs hf hcl hx hy Q H0 W1
      go_wp2_with fail
      refine wp_region_held_drew (S := (fun _ => True)) (by kernel_rfl) trivial (fun hHeld => ?_)
      refine wpAnyH_take (i := 0) (v := ?v0z1) rfl (by kernel_rfl) (by kernel_rfl) (by kernel_rfl) (fun _ _ _ h => h) (Or.inl ⟨by rfl, ?y0z1⟩) (by assumption) ?r0z1
      case y0z1 => (intro w hSw; (try dsimp only at hSw); go_simp; try with_reducible rfl)
      simp only [Act.put, List.getElem_toArray, List.getElem_cons_zero, List.size_toArray, List.length_cons, List.length_nil, Nat.reduceAdd, Array.replicate, List.replicate, List.setIfInBounds_toArray, List.set_cons_zero, List.set_cons_succ]
      refine wpAnyH_take (i := 1) (v := ?v1z2) rfl (by kernel_rfl) (by kernel_rfl) (by kernel_rfl) (fun _ _ _ h => h) (Or.inl ⟨by rfl, ?y1z2⟩) (by assumption) ?r1z2
      case y1z2 => (intro w hSw; (try dsimp only at hSw); go_simp; try with_reducible rfl)
      simp only [Act.put, List.getElem_toArray, List.getElem_cons_succ, List.getElem_cons_zero, List.setIfInBounds_toArray, List.set_cons_zero, List.set_cons_succ]
      refine wpAnyH_take (i := 2) (v := ?v2z3) rfl (by kernel_rfl) (by kernel_rfl) (by kernel_rfl) (fun _ _ _ h => h) (Or.inl ⟨by rfl, ?y2z3⟩) (by assumption) ?r2z3
      case y2z3 => (intro w hSw; (try dsimp only at hSw); go_simp; try with_reducible rfl)
      simp only [Act.put, List.getElem_toArray, List.getElem_cons_succ, List.getElem_cons_zero, List.setIfInBounds_toArray, List.set_cons_zero, List.set_cons_succ]
      refine wpAnyH_take (i := 3) (v := ?v3z4) rfl (by kernel_rfl) (by kernel_rfl) (by kernel_rfl) (fun _ _ _ h => h) (Or.inl ⟨by rfl, ?y3z4⟩) (by assumption) ?r3z4
      case y3z4 => (intro w hSw; (try dsimp only at hSw); go_simp; try with_reducible rfl)
      simp only [Act.put, List.getElem_toArray, List.getElem_cons_succ, List.getElem_cons_zero, List.setIfInBounds_toArray, List.set_cons_zero, List.set_cons_succ]
      refine wpAnyH_take (i := 4) (v := ?v4z5) rfl (by kernel_rfl) (by kernel_rfl) (by kernel_rfl) (fun _ _ _ h => h) (Or.inl ⟨by rfl, ?y4z5⟩) (by assumption) ?r4z5
      case y4z5 => (intro w hSw; (try dsimp only at hSw); go_simp; try with_reducible rfl)
      simp only [Act.put, List.getElem_toArray, List.getElem_cons_succ, List.getElem_cons_zero, List.setIfInBounds_toArray, List.set_cons_zero, List.set_cons_succ]
      refine wpAnyH_take (i := 5) (v := ?v5z6) rfl (by kernel_rfl) (by kernel_rfl) (by kernel_rfl) (fun _ _ _ h => h) (Or.inl ⟨by rfl, ?y5z6⟩) (by assumption) ?r5z6
      case y5z6 => (intro w hSw; (try dsimp only at hSw); go_simp; try with_reducible rfl)
      simp only [Act.put, List.getElem_toArray, List.getElem_cons_succ, List.getElem_cons_zero, List.setIfInBounds_toArray, List.set_cons_zero, List.set_cons_succ]
      refine wpAnyH_take (i := 6) (v := ?v6z7) rfl (by kernel_rfl) (by kernel_rfl) (by kernel_rfl) (fun _ _ _ h => h) (Or.inl ⟨by rfl, ?y6z7⟩) (by assumption) ?r6z7
      case y6z7 => (intro w hSw; (try dsimp only at hSw); go_simp; try with_reducible rfl)
      simp only [Act.put, List.getElem_toArray, List.getElem_cons_succ, List.getElem_cons_zero, List.setIfInBounds_toArray, List.set_cons_zero, List.set_cons_succ]
      refine wpAnyH_take (i := 8) (v := ?v8z8) rfl (by kernel_rfl) (by kernel_rfl) (by kernel_rfl) (fun _ _ _ h => h) (Or.inl ⟨by rfl, ?y8z8⟩) (by assumption) ?r8z8
      case y8z8 => (intro w hSw; (try dsimp only at hSw); go_simp; try with_reducible rfl)
      simp only [Act.put, List.getElem_toArray, List.getElem_cons_succ, List.getElem_cons_zero, List.setIfInBounds_toArray, List.set_cons_zero, List.set_cons_succ]
      refine wpAnyH_take (i := 9) (v := ?v9z9) rfl (by kernel_rfl) (by kernel_rfl) (by kernel_rfl) (fun _ _ _ h => h) (Or.inl ⟨by rfl, ?y9z9⟩) (by assumption) ?r9z9
      case y9z9 => (intro w hSw; (try dsimp only at hSw); go_simp; try with_reducible rfl)
      simp only [Act.put, List.getElem_toArray, List.getElem_cons_succ, List.getElem_cons_zero, List.setIfInBounds_toArray, List.set_cons_zero, List.set_cons_succ]
      refine wpAnyH_take (i := 10) (v := ?v10z10) rfl (by kernel_rfl) (by kernel_rfl) (by kernel_rfl) (fun _ _ _ h => h) (Or.inl ⟨by rfl, ?y10z10⟩) (by assumption) ?r10z10
      case y10z10 => (intro w hSw; (try dsimp only at hSw); go_simp; try with_reducible rfl)
      simp only [Act.put, List.getElem_toArray, List.getElem_cons_succ, List.getElem_cons_zero, List.setIfInBounds_toArray, List.set_cons_zero, List.set_cons_succ]
      refine wpAnyH_ready (rs := [7, 11]) (by kernel_rfl) (by simp) ?_
      refine (AllReadyH.cons rfl (fun K' hK => ?_) (AllReadyH.cons rfl (fun K' hK => ?_) AllReadyH.nil))
      · skip
        refine wp_load_mid 33 (.tmp 20) rfl g (off + jn * 10) (by rfl) y.c _ (by exact RY.out) Tryz.underlying33 rfl (by rw [Pm.c_len]; exact pred_size) ?_
        refine hK.out _ _ trivial (fun hHeld => ?_)
        clear hK K'
        simp only [Act.put, List.getElem_toArray, List.getElem_cons_succ, List.getElem_cons_zero, List.setIfInBounds_toArray, List.set_cons_zero, List.set_cons_succ]
        refine wpAnyH_ready (rs := [11]) (by kernel_rfl) (by simp) ?_
        refine AllReadyH.cons rfl (fun K' hK => ?_) AllReadyH.nil
        refine wp_load_mid 33 (.tmp 24) rfl g (off + i * 10) (by rfl) x.c _ (by exact RX.out) Tryz.underlying33 rfl (by rw [Pm.c_len]; exact pred_size) ?_
        refine hK.out _ _ trivial (fun hHeld => ?_)
        clear hK K'
        simp only [Act.put, List.getElem_toArray, List.getElem_cons_succ, List.getElem_cons_zero, List.setIfInBounds_toArray, List.set_cons_zero, List.set_cons_succ]
        refine wpAnyH_take (i := 12) (v := ?v12z11) rfl (by kernel_rfl) (by kernel_rfl) (by kernel_rfl) (fun _ _ _ h => h) (Or.inl ⟨by rfl, ?y12z11⟩) (by assumption) ?r12z11
        case y12z11 => (intro w hSw; (try dsimp only at hSw); go_simp; try with_reducible rfl)
        simp only [Act.put, List.getElem_toArray, List.getElem_cons_succ, List.getElem_cons_zero, List.setIfInBounds_toArray, List.set_cons_zero, List.set_cons_succ]
        refine wpAnyH_ready (rs := [13]) (by kernel_rfl) (by simp) ?_
        refine AllReadyH.cons rfl (fun K' hK => ?_) AllReadyH.nil
        refine wp_store_mid 33 (.tmp 26) (.tmp 21) rfl g (off + i * 10) y.c.toArray (by rfl) (by rfl) (by rw [Pm.c_size]; exact TI.out) (by rw [Pm.c_size]; exact pred_size) (Pm.c_all _) ?_
        refine hK.out _ _ trivial (fun hHeld => ?_)
        clear hK K'
        simp only [Act.put, List.getElem_toArray, List.getElem_cons_succ, List.getElem_cons_zero, List.setIfInBounds_toArray, List.set_cons_zero, List.set_cons_succ]
        refine wpAnyH_take (i := 14) (v := ?v14z12) rfl (by kernel_rfl) (by kernel_rfl) (by kernel_rfl) (fun _ _ _ h => h) (Or.inl ⟨by rfl, ?y14z12⟩) (by assumption) ?r14z12
        case y14z12 => (intro w hSw; (try dsimp only at hSw); go_simp; try with_reducible rfl)
        simp only [Act.put, List.getElem_toArray, List.getElem_cons_succ, List.getElem_cons_zero, List.setIfInBounds_toArray, List.set_cons_zero, List.set_cons_succ]
        refine wpAnyH_ready (rs := [15]) (by kernel_rfl) (by simp) ?_
        refine AllReadyH.cons rfl (fun K' hK => ?_) AllReadyH.nil
        refine wp_store_mid 33 (.tmp 27) (.tmp 25) rfl g (off + jn * 10) x.c.toArray (by rfl) (by rfl) (by rw [Pm.c_size]; exact TJ.out) (by rw [Pm.c_size]; exact pred_size) (Pm.c_all _) ?_
        refine hK.out _ _ trivial (fun hHeld => ?_)
        clear hK K'
        simp only [Act.put, List.getElem_toArray, List.getElem_cons_succ, List.getElem_cons_zero, List.setIfInBounds_toArray, List.set_cons_zero, List.set_cons_succ]
        refine wpAnyH_done (by kernel_rfl) ?_ _
        go_wp2_with fail
        go_roundw
        case rel => exact ⟨i + 1, (jn : Int) - 1, by go_num, by go_num, by omega, by omega, by omega, Lib.hid ⟨_, HT2.out, W2.out, HO2.out⟩⟩
        case measure => simp [intOf]; omega
      · skip
        refine wp_load_mid 33 (.tmp 24) rfl g (off + i * 10) (by rfl) x.c _ (by exact RX.out) Tryz.underlying33 rfl (by rw [Pm.c_len]; exact pred_size) ?_
        refine hK.out _ _ trivial (fun hHeld => ?_)
        clear hK K'
        simp only [Act.put, List.getElem_toArray, List.getElem_cons_succ, List.getElem_cons_zero, List.setIfInBounds_toArray, List.set_cons_zero, List.set_cons_succ]
        refine wpAnyH_ready (rs := [7]) (by kernel_rfl) (by simp) ?_
        refine AllReadyH.cons rfl (fun K' hK => ?_) AllReadyH.nil
        refine wp_load_mid 33 (.tmp 20) rfl g (off + jn * 10) (by rfl) y.c _ (by exact RY.out) Tryz.underlying33 rfl (by rw [Pm.c_len]; exact pred_size) ?_
        refine hK.out _ _ trivial (fun hHeld => ?_)
        clear hK K'
        simp only [Act.put, List.getElem_toArray, List.getElem_cons_succ, List.getElem_cons_zero, List.setIfInBounds_toArray, List.set_cons_zero, List.set_cons_succ]
        refine wpAnyH_take (i := 12) (v := ?v12z13) rfl (by kernel_rfl) (by kernel_rfl) (by kernel_rfl) (fun _ _ _ h => h) (Or.inl ⟨by rfl, ?y12z13⟩) (by assumption) ?r12z13
        case y12z13 => (intro w hSw; (try dsimp only at hSw); go_simp; try with_reducible rfl)
        simp only [Act.put, List.getElem_toArray, List.getElem_cons_succ, List.getElem_cons_zero, List.setIfInBounds_toArray, List.set_cons_zero, List.set_cons_succ]
        refine wpAnyH_ready (rs := [13]) (by kernel_rfl) (by simp) ?_
        refine AllReadyH.cons rfl (fun K' hK => ?_) AllReadyH.nil
        refine wp_store_mid 33 (.tmp 26) (.tmp 21) rfl g (off + i * 10) y.c.toArray (by rfl) (by rfl) (by rw [Pm.c_size]; exact TI.out) (by rw [Pm.c_size]; exact pred_size) (Pm.c_all _) ?_
        refine hK.out _ _ trivial (fun hHeld => ?_)
        clear hK K'
        simp only [Act.put, List.getElem_toArray, List.getElem_cons_succ, List.getElem_cons_zero, List.setIfInBounds_toArray, List.set_cons_zero, List.set_cons_succ]
        refine wpAnyH_take (i := 14) (v := ?v14z14) rfl (by kernel_rfl) (by kernel_rfl) (by kernel_rfl) (fun _ _ _ h => h) (Or.inl ⟨by rfl, ?y14z14⟩) (by assumption) ?r14z14
        case y14z14 => (intro w hSw; (try dsimp only at hSw); go_simp; try with_reducible rfl)
        simp only [Act.put, List.getElem_toArray, List.getElem_cons_succ, List.getElem_cons_zero, List.setIfInBounds_toArray, List.set_cons_zero, List.set_cons_succ]
        refine wpAnyH_ready (rs := [15]) (by kernel_rfl) (by simp) ?_
        refine AllReadyH.cons rfl (fun K' hK => ?_) AllReadyH.nil
        refine wp_store_mid 33 (.tmp 27) (.tmp 25) rfl g (off + jn * 10) x.c.toArray (by rfl) (by rfl) (by rw [Pm.c_size]; exact TJ.out) (by rw [Pm.c_size]; exact pred_size) (Pm.c_all _) ?_
        refine hK.out _ _ trivial (fun hHeld => ?_)
        clear hK K'
        simp only [Act.put, List.getElem_toArray, List.getElem_cons_succ, List.getElem_cons_zero, List.setIfInBounds_toArray, List.set_cons_zero, List.set_cons_succ]
        refine wpAnyH_done (by kernel_rfl) ?_ _
        go_wp2_with fail
        go_roundw
        case rel => exact ⟨i + 1, (jn : Int) - 1, by go_num, by go_num, by omega, by omega, by omega, Lib.hid ⟨_, HT2.out, W2.out, HO2.out⟩⟩
        case measure => simp [intOf]; omega
    · go_wp2_with fail
      go_end0
      obtain ⟨cur, hT, hW, hO⟩ := Q.out
      rw [hT.all (by rw [← HN.out]; omega)] at hW
      exact ⟨rfl, hW, hO⟩
end Go.Proofs.YtjaclmoobfeikaaGreatDoor
namespace Go.Proofs.YtjaclmoobfeikaaGreatDoor
open Go.RowKit

theorem Only.keepB {M : Nat → Prop} {w w' : World} (h : Only M w w') {b : Nat} {o : Obj} (hb : w.heap[b]? = some o) (hM : ¬ M b) : w'.heap[b]? = some o :=
  (h.block b (Array.getElem?_eq_some_iff.1 hb).1 hM).trans hb
theorem win_lit (w : World) (cs : Array Value) (hs : cs.size = 10) : Win 10 (w.alloc (.cells cs 33)) (some ⟨w.heap.size, 0, none⟩) 1 1 cs.toList := by
  obtain ⟨a, cap, hv, hw, _⟩ := own_win (World.ownsRow_lit (base := w.heap.size) (e := 33) (size := 10) w cs 1 (Nat.le_refl _) (by decide) hs)
  cases hv
  exact hw
/-- What is left, and what was taken out, in memory. -/
structure Prs (w W : World) (X : Pm) (S : Nat → Prop) (st out : List Pm) (a b : Ptr) (cap cap2 : Nat) : Prop where
  eq : Pm.allsL st ++ out.reverse = X.alls
  left : Win 10 W a cap st.length (st.flatMap Pm.c)
  cap0 : cap ≠ 0
  out : Win 10 W b cap2 out.length (out.flatMap Pm.c)
  la : ∀ k, bk a k → w.heap.size ≤ k
  lb : ∀ k, bk b k → w.heap.size ≤ k
  ap : ∀ k, bk a k → ¬ bk b k
  g : w.grownBy W none
  mem : ∀ x ∈ st, PmS S w x
theorem Pm.ns_app : ∀ l m : List Pm, Pm.ns (l ++ m) = Pm.ns l + Pm.ns m
  | [], m => by simp [Pm.ns]
  | x :: l, m => by rw [List.cons_append, Pm.ns, Pm.ns, Pm.ns_app l m]; omega
theorem Pm.len_ns : ∀ l : List Pm, l.length ≤ Pm.ns l
  | [] => by simp
  | x :: l => by
    have := Pm.len_ns l
    rw [List.length_cons, Pm.ns, Pm.n_eq]; omega
theorem Prs.few {w W : World} {X : Pm} {S : Nat → Prop} {st out : List Pm} {a b : Ptr} {cap cap2 : Nat} (h : Prs w W X S st out a b cap cap2) (hn : X.n ≤ 1000) : st.length ≤ 1000 ∧ Pm.ns st ≤ 1000 ∧ out.length + Pm.ns st = X.n := by
  have h1 := congrArg List.length h.eq
  rw [List.length_append, List.length_reverse, Pm.allsL_n, Pm.alls_n] at h1
  have h2 := Pm.len_ns st
  omega
set_option maxRecDepth 100000 in
set_option maxHeartbeats 6400000 in
theorem preds_any (S : Nat → Prop) (X : Pm) (w : World) (hX : PmS S w X) (hn : X.n ≤ 1000) :
    Calls Tryz.prog 22 #[X.v] w fun e w' => (∃ b cap, e = .returned (.slice b X.alls.length cap) ∧ Win 10 w' b cap X.alls.length (X.alls.flatMap Pm.c) ∧ ∀ k, bk b k → w.heap.size ≤ k) ∧ w.grownBy w' none := by
  have HR := Lib.hid reverse_any
  have H0 : Hid (Prs w ((w.alloc (.cells X.c.toArray 33)).alloc (.cells X.c.toArray 33)) X S [X] [] (some ⟨w.heap.size + 1, 0, none⟩) none 1 0) := Lib.hid (by
    have hw := win_lit (w.alloc (.cells X.c.toArray 33)) X.c.toArray X.c_size
    refine ⟨by simp [Pm.allsL], by simpa using hw, by decide, Win.nil 10 _, fun k hk => ?_, fun k hk => by simp [bk] at hk, fun k _ hk => by simp [bk] at hk, (World.grownBy_alloc _ _ _).trans (World.grownBy_alloc _ _ _), fun x hx => ?_⟩
    · rw [bk_some] at hk; omega
    · obtain rfl : x = X := by simpa using hx
      exact hX)
  have hX1 := X.c_size
  have hX2 := X.c_all
  have HN := Lib.hid hn
  unfold Pm.v
  obtain ⟨cx, hcx⟩ : ∃ cx, cx = X.c.toArray := ⟨_, rfl⟩
  rw [← hcx] at hX1 hX2 H0 ⊢
  clear hX hn hcx
  go_enter Tryz.func22, Tryz.ntmps22
  go_wp2_with fail
  rw [ten hX1]
  obtain ⟨W, hW⟩ : ∃ W, W = (w.alloc (.cells cx 33)).alloc (.cells cx 33) := ⟨_, rfl⟩
  rw [← hW] at H0 ⊢
  clear hW hX1 hX2
  go_loopw [3, 4] (fun s3 s4 wr => ∃ (a b : Ptr) (n m cap cap2 : Nat), s3 = .slice a n cap ∧ s4 = .slice b m cap2 ∧ n ≤ cap ∧ n ≤ 1000 ∧ m ≤ 1000 ∧ Hid (∃ st out, n = st.length ∧ m = out.length ∧ Prs w wr X S st out a b cap cap2)) (fun _ s4 _ => 1001 - (match s4 with | .slice _ m _ => m | _ => 0))
  case atStart => exact ⟨_, _, 1, 0, 1, 0, rfl, rfl, by omega, by omega, by omega, Lib.hid ⟨[X], [], rfl, rfl, H0.out⟩⟩
  case round =>
    obtain ⟨a, b, n, m, cap, cap2, rfl, rfl, hnc, hn3, hm3, H⟩ := hrel
    clear H0
    by_cases h0 : n = 0
    · subst h0
      obtain ⟨st, out, h1, h2, hP⟩ := H.out
      obtain rfl := List.eq_nil_of_length_eq_zero h1.symm
      have HR1 := Lib.hid (HR.out out b cap2 m wr (by rw [h2]; exact hP.out) h2 (by omega))
      have HQ := Lib.hid (And.intro h2 hP)
      clear h1 h2 hP H
      go_wp2_with fail
      refine (HR1.out).mono ?_
      rintro e w2 ⟨rfl, hw, ho⟩
      have HW := Lib.hid (And.intro hw ho)
      clear hw ho
      go_wp2_with fail
      go_ret
      obtain ⟨h2, hP⟩ := HQ.out
      have e : X.alls = out.reverse := by simpa [Pm.allsL] using hP.eq.symm
      rw [e, List.length_reverse, ← h2]
      exact ⟨⟨b, cap2, rfl, HW.out.1, hP.lb⟩, grown_onlyN hP.g HW.out.2 hP.lb⟩
    · obtain ⟨m', rfl⟩ : ∃ m', n = m' + 1 := ⟨n - 1, by omega⟩
      clear h0
      obtain ⟨st, x, out, hst, hout, hP⟩ : ∃ st x out, m' = st.length ∧ m = out.length ∧ Prs w wr X S (st ++ [x]) out a b cap cap2 := by
        obtain ⟨st, out, h1, h2, h3⟩ := H.out
        rcases List.eq_nil_or_concat st with rfl | ⟨s0, p, rfl⟩
        · simp at h1
        · exact ⟨s0, p, out, by simp at h1; omega, h2, by simpa using h3⟩
      obtain ⟨g, off, rfl, hc, _, _⟩ := hP.left.mem.resolve_left hP.cap0
      have RX : Hid (wr.rangeAt g (off + m' * 10) x.c) := Lib.hid fun k u hk => by
        rw [Nat.add_assoc]
        refine hc _ _ ?_
        rw [List.flatMap_append, List.getElem?_append_right (by rw [pm_len, hst]; omega), pm_len, hst, show st.length * 10 + k - st.length * 10 = k by omega]
        simpa using hk
      have hwl : Win 10 wr (some ⟨g, off, Option.none⟩) cap m' (st.flatMap Pm.c) := by
        have := hP.left
        rw [List.flatMap_append, List.length_append] at this
        exact this.fewer (by omega) (by rw [pm_len, hst])
      have k8 := x.c_8
      have hxs : PmS S w x := hP.mem x (by simp)
      obtain ⟨hks, hkl, hkm⟩ := Pm.ksl_in hxs
      have few := hP.few HN.out
      have hkn : x.ksl.l.length ≤ 1000 ∧ m' + x.ksl.l.length ≤ 2000 := by
        have h1 := Pm.len_ns x.ksl.l
        have h2 := Pm.n_eq x
        rw [← Pm.ksl_l] at h2
        have h3 := Pm.ns_app st [x]
        simp only [Pm.ns] at h3
        omega
      have hA : x.ksl.a = none → x.ksl.l.length = 0 := fun e => by
        rcases hks with h | ⟨b', o', e', _⟩
        · have := congrArg List.length h
          rw [pm_len] at this
          simp at this; omega
        · rw [e] at e'; cases e'
      have HK := Lib.hid (fun W (hW : w.grownBy W none) => hks.keep (w' := W) (.of hW))
      have HQ := Lib.hid (And.intro hst (And.intro hout hP))
      have HX := Lib.hid (show x.ksl.l = x.kids from x.ksl_l)
      have hcap0 := hP.cap0
      obtain ⟨cs, hcs⟩ : ∃ cs, cs = x.c.toArray := ⟨_, rfl⟩
      have hX1 : cs.size = 10 := by rw [hcs]; exact x.c_size
      have hX2 : cs.all (·.oneCell') = true := by rw [hcs]; exact x.c_all
      have Hcs := Lib.hid hcs
      obtain ⟨⟨ka, kc, kl⟩, hk⟩ : ∃ k, k = x.ksl := ⟨_, rfl⟩
      rw [← hk] at k8 hkn hA HK HX hkl
      simp only [Psl.v] at k8
      dsimp only at hkn hA HK HX hkl
      have HLn := Lib.hid (pm_len kl)
      obtain ⟨kn, hkn0⟩ : ∃ kn, kn = kl.length := ⟨_, rfl⟩
      rw [← hkn0] at k8 hkn hA HLn hkl
      have A1 := Lib.hid (heap_alloc_new wr (.cells z10 33))
      have gA := Lib.hid (World.grownBy_alloc wr (.cells z10 33) none)
      have gS := Lib.hid (grown_setRow (wr.alloc (.cells z10 33)) wr.heap.size cs)
      have A2 := Lib.hid (setRow_heap (wr.alloc (.cells z10 33)) wr.heap.size z10 cs _ _ A1.out)
      have g2 : Hid (wr.grownBy ((wr.alloc (.cells z10 33)).setRow wr.heap.size cs) none) := Lib.hid (grown_thenX gA.out gS.out (fun j e => by cases e; exact Nat.le_refl _))
      obtain ⟨W1, hW1⟩ : ∃ W1, W1 = (wr.alloc (.cells z10 33)).setRow wr.heap.size cs := ⟨_, rfl⟩
      have s1 : W1.heap.size = wr.heap.size + 1 := by rw [hW1]; simp
      rw [← hW1] at A2 g2
      have c8 : W1.cell? ⟨wr.heap.size, 8, none⟩ = some (.slice ka kn kc) := (cell_of_row _ _ 8 _ _ _ A2.out).trans (by rw [Hcs.out, List.getElem?_toArray]; exact k8)
      have HW3 : Hid (Win 10 W1.drew (some ⟨g, off, Option.none⟩) cap m' (st.flatMap Pm.c)) := Lib.hid (hwl.keepG (grown_drewT g2.out))
      have HN3 : Hid (∀ ad, ka = some ad → ∀ j u, (kl.flatMap Pm.c)[j]? = some u → W1.drew.cell? (ad.add j) = some u) := Lib.hid (by
        rintro ad rfl
        exact (HK.out _ (hP.g.trans (grown_drewT g2.out))).at)
      have HWR := Lib.hid hW1
      have hwm : IntKind.i64.wrap (m' : Int) = m' := IntWalk.i64_in _ (by omega)
      have hmc : m' ≤ cap := by omega
      have S1 := Lib.hid s1
      clear s1 hst hout hP hc hwl hxs hks hkm few H k8 hcs hk hkn0 gA gS hkl hW1
      go_upto_region 5 with (first
        | (refine wpList_load_mid rfl 33 (.tmp 15) rfl g (off + m' * 10) rfl x.c _ RX.out Tryz.underlying33 rfl (by rw [Pm.c_len]; exact pred_size) ?_; rw [← Hcs.out])
        | (refine wpList_store_row rfl 33 (.tmp 5) (.tmp 16) rfl wr.heap.size cs rfl rfl 33 z10 A1.out (by rw [hX1]; exact pred_size) (by rw [hX1]; rfl) hX2 ?_))
      change Code.wp _ _ _ _ ((wr.alloc (.cells z10 33)).setRow wr.heap.size cs)
      rw [← HWR.out]
      clear HWR
      go_region_law (first
        | (refine step_append_winM (by rfl) (.tmp 21) (.tmp 23) pred_el (by rfl) HW3.out hcap0 (by rfl) ka kn kc (by rfl) (kl.flatMap Pm.c) hA HLn.out (by omega) HN3.out (pm_one _) ?_
           intro a4 cap4 w4 hk4 ho4 hb4 hc4
           have E4 := Lib.hid (And.intro hk4 (And.intro ho4 (And.intro hb4 hc4)))
           clear hk4 ho4 hb4 hc4)
        | fail)
      all_goals
        have B4 := Lib.hid (E4.out.2.1.keepB (b := wr.heap.size) (o := .cells cs 33 (0, 0)) A2.out (by
          rw [bk_some]
          have := HQ.out.2.2.left.lt g (by rw [bk_some])
          omega))
        have O4 : Hid (Win 10 (w4.alloc (.cells cs 33)) b cap2 m (out.flatMap Pm.c)) := Lib.hid (by
          obtain ⟨hst, hout, hP⟩ := HQ.out
          have h1 := hP.out.keepG (g2.out.trans (grown_drewT (grown_reflT W1 none)))
          rw [← hout] at h1
          exact (h1.keep E4.out.2.1 (fun k hk e => hP.ap k e hk)).keepG (World.grownBy_alloc w4 _ none))
        go_wp2_with (first
          | (refine wpList_load_row rfl 33 (.tmp 5) rfl wr.heap.size rfl 33 cs (0, 0) _ B4.out Tryz.underlying33 rfl (by rw [hX1]; exact pred_size) ?_)
          | (at_builtin; rw [fold_ten hX1]; refine wpList_append_win (by rfl) (.tmp 25) (.tmp 27) pred_el (by rfl) O4.out (by omega) (by rfl) ⟨w4.heap.size, 0, none⟩ 1 (by rfl) x.c (Pm.c_len x) (by rw [Hcs.out]; exact World.news_of_block (heap_alloc_new w4 _)) x.c_one ?_))
        intro b6 cap6 w6 hw6 ho6 hb6
        have E6 := Lib.hid (And.intro hw6 (And.intro ho6 hb6))
        clear hw6 ho6 hb6
        go_wp2_with fail
        go_roundw
        case rel =>
          obtain ⟨hst, hout, hP⟩ := HQ.out
          obtain ⟨h1, h2, h3, h4⟩ := E4.out
          obtain ⟨h5, h6, h7⟩ := E6.out
          have gw := g2.out.trans (grown_drewT (grown_reflT W1 none))
          have few := hP.few HN.out
          have hlt := hP.left.lt g (by rw [bk_some])
          have hs := gw.size
          have hs4 := h2.size
          have hs6 := h6.size
          have hd : W1.drew.heap.size = wr.heap.size + 1 := S1.out
          have ga := World.grownBy_alloc w4 (.cells cs 33) none
          have hla : ∀ k, bk a4 k → w.heap.size ≤ k ∧ (k = g ∨ wr.heap.size ≤ k) := fun k hk => by
            rcases h3 k hk with e | e
            · have := hP.la k e
              rw [bk_some] at e
              exact ⟨this, .inl e.symm⟩
            · have := hP.g.size
              exact ⟨by omega, .inr (by omega)⟩
          have hba : ∀ k, bk b k → k < wr.heap.size := fun k hk => hP.out.lt k hk
          refine ⟨a4, b6, m' + kn, m + 1, cap4, cap6, rfl, rfl, h1.le, ?_, ?_, Lib.hid ⟨st ++ kl, out ++ [x], ?_, ?_, ?_⟩⟩
          · have h8 := Pm.len_ns st
            have h9 := Pm.len_ns kl
            have hA := Pm.ns_app st [x]
            have hB := Pm.n_eq x
            have hC := HLn.out
            rw [pm_len] at hC
            rw [← HX.out] at hB
            simp only [Pm.ns] at hA
            omega
          · have hA := Pm.ns_app st [x]
            have hB := Pm.n_eq x
            have := HN.out
            simp only [Pm.ns] at hA
            omega
          · have hC := HLn.out
            rw [pm_len] at hC
            rw [List.length_append]; omega
          · rw [List.length_append, ← hout]; rfl
          · have hkl : kn = kl.length := by
              have hC := HLn.out
              rw [pm_len] at hC
              omega
            refine ⟨?_, ?_, h4, ?_, fun k hk => (hla k hk).1, fun k hk => ?_, fun k hk hk2 => ?_, ?_, fun y hy => ?_⟩
            · rw [← hP.eq, Pm.allsL_app, Pm.allsL_app, List.reverse_append]
              simp only [Pm.allsL]
              rw [Pm.alls_eq, ← HX.out]
              simp
            · rw [List.length_append, List.flatMap_append, ← hkl, ← hst]
              refine (h1.keepG ga).keep h6 (fun k hk hk2 => ?_)
              rcases (hla k hk).2 with rfl | e
              · exact hP.ap k (by rw [bk_some]) hk2
              · have := hba k hk2; omega
            · rw [List.length_append, List.flatMap_append, ← hout]
              simpa using h5
            · rcases h7 k hk with e | e
              · exact hP.lb k e
              · have := hP.g.size
                have := ga.size
                omega
            · rcases h7 k hk2 with e | e
              · rcases (hla k hk).2 with rfl | e2
                · exact hP.ap k (by rw [bk_some]) e
                · have := hba k e; omega
              · have := h1.lt k hk
                have := ga.size
                omega
            · exact grown_onlyN ((grown_onlyN (hP.g.trans gw) h2 (fun k hk => hP.la k hk)).trans ga) h6 (fun k hk => hP.lb k hk)
            · rcases List.mem_append.1 hy with hy | hy
              · exact hP.mem y (by simp [hy])
              · have h9 := (Pm.ksl_in (hP.mem x (by simp))).2.2
                rw [Pm.ksl_l, ← HX.out] at h9
                exact (PmSs_iff kl).1 h9 y hy
        case measure => simp; omega
end Go.Proofs.YtjaclmoobfeikaaGreatDoor
namespace Go.Proofs.YtjaclmoobfeikaaGreatDoor
open Go.RowKit

mutual
/-- At most twelve literals each. -/
def Prd.few : Prd → Prop
  | .mk _ _ _ _ _ l ks _ => l.length ≤ 12 ∧ Prd.fews ks
def Prd.fews : List Prd → Prop
  | [] => True
  | x :: r => x.few ∧ Prd.fews r
end
theorem Prd.fews_app : ∀ l m : List Prd, Prd.fews (l ++ m) ↔ Prd.fews l ∧ Prd.fews m
  | [], m => by simp [Prd.fews]
  | x :: l, m => by simp [Prd.fews, Prd.fews_app l m, and_assoc]
theorem partsF_few (word : ByteArray) (pf : RS → RS × Prd) (hp : ∀ s : RS, (pf s).2.few) : ∀ (f : Nat) (s : RS) (acc : List Prd), Prd.fews acc → Prd.fews (partsF word pf f s acc).2
  | 0, _, _, ha => ha
  | f + 1, s, acc, ha => by
    rw [partsF]
    split
    · exact partsF_few word pf hp f _ _ ((Prd.fews_app _ _).2 ⟨ha, hp _, trivial⟩)
    · exact ha
theorem joinP_few (kind p : Nat) (l : List Prd) (h : Prd.fews l) : (joinP kind p l).few := by
  unfold joinP
  split
  · exact h.1
  · exact ⟨by simp, h⟩
theorem partsL_few (kind : Nat) (word : ByteArray) (pf : RS → RS × Prd) (hp : ∀ s : RS, (pf s).2.few) (s : RS) : (partsL kind word pf s).2.few :=
  joinP_few kind _ _ (partsF_few word pf hp _ _ _ ⟨hp s, trivial⟩)
theorem amongL_few (col : ByteArray) (pos : Nat) (s : RS) : (amongL col pos s).2.few := by
  unfold amongL
  split
  · exact ⟨listF_len 12 RS.literal 13 _ [] (by simp), trivial⟩
  · exact ⟨by simp, ⟨by simp, trivial⟩, ⟨by simp, trivial⟩, trivial⟩
theorem notP_few {p : Prd} (h : p.few) (n : Nat) : (notP p n).few := ⟨by simp, h, trivial⟩
theorem nameP_few (pos : Nat) (s : RS) : (nameP pos s).2.few := by
  unfold nameP
  dsimp only
  repeat' split
  all_goals first | exact notP_few (amongL_few _ _ _) _ | exact amongL_few _ _ _ | exact ⟨by simp, trivial⟩
theorem litP_few (pos : Nat) (s : RS) : (litP pos s).2.few := by
  unfold litP
  dsimp only
  repeat' split
  all_goals first | (unfold truthP; exact ⟨by simp, trivial⟩) | exact ⟨by simp, trivial⟩
theorem oneF_few : ∀ (d : Nat) (s : RS), (oneF d s).2.few
  | 0, s => ⟨by simp, trivial⟩
  | d + 1, s => by
    rw [oneF]
    dsimp only
    repeat' split
    · exact notP_few (oneF_few d _) _
    · exact partsL_few 9 bOr _ (fun s => partsL_few 8 bAnd _ (oneF_few d) s) _
    · exact nameP_few _ _
    · exact litP_few _ _
theorem anyF_few (d : Nat) (s : RS) : (anyF d s).2.few := partsL_few 9 bOr _ (fun s => partsL_few 8 bAnd _ (oneF_few d) s) s
theorem parseL_few (s : ByteArray) (q : Qry) (h : parseL s = .ok q) : q.cond.few := by
  unfold parseL at h
  split at h
  · cases h
  · split at h
    · cases h
    · cases h
      show (whereQ _).2.few
      unfold whereQ
      split
      · exact anyF_few _ _
      · exact ⟨by simp, trivial⟩
mutual
theorem Prd.alls_few : ∀ p : Prd, p.few → ∀ x ∈ p.alls, x.few
  | .mk k c r v o l ks p, h, x, hx => by
    rw [Prd.alls, List.mem_append, List.mem_singleton] at hx
    rcases hx with hx | rfl
    · exact Prd.allsL_few ks h.2 x hx
    · exact h
theorem Prd.allsL_few : ∀ ks : List Prd, Prd.fews ks → ∀ x ∈ Prd.allsL ks, x.few
  | [], _, x, hx => by simp [Prd.allsL] at hx
  | y :: r, h, x, hx => by
    rw [Prd.allsL, List.mem_append] at hx
    rcases hx with hx | hx
    · exact Prd.alls_few y h.1 x hx
    · exact Prd.allsL_few r h.2 x hx
end
theorem Prd.lits_len : ∀ x : Prd, x.few → x.lits.length ≤ 13
  | .mk k c r v o l ks p, h => by
    have := h.1
    show (if k = 3 then [v] else if k = 11 then v :: l else if k = 5 then l else []).length ≤ 13
    split
    · simp
    · split
      · simp; omega
      · split
        · omega
        · simp
theorem val_elC : ElT 30 29 (.agg #[.int .i64 0, .int .i64 0, .string ⟨#[]⟩]) 3 32 := ⟨Tryz.underlying30, info_partsT vl_infoC, by decide, by decide, by decide⟩
theorem CellsS.atAny {S : Nat → Prop} {w : World} {a : Option Addr} {xs : List Value} (h : CellsS S w a xs) : ∀ ad, a = some ad → ∀ j u, xs[j]? = some u → w.cell? (ad.add j) = some u := fun ad e => by
  subst e; exact h.at
theorem cells_blk {w : World} {g : Nat} {cs : Array Value} {T : TypeId} (h : w.heap[g]? = some (.cells cs T (0, 0))) : CellsS (fun _ => True) w (some ⟨g, 0, none⟩) cs.toList :=
  .inr ⟨g, 0, rfl, trivial, (Array.getElem?_eq_some_iff.1 h).1, fun j u hj => by
    rw [Nat.zero_add, cell_of_row _ _ j _ _ _ h]; simpa using hj⟩
set_option maxHeartbeats 3200000 in
/-- The literals of a predicate, but for its Kids. -/
theorem literals_any (S : Nat → Prop) (x : Pm) (w : World) (hx : PmS S w x) (hf : x.e.few) :
    Calls Tryz.prog 122 #[x.v] w fun e w' => (∃ a cap, e = .returned (.slice a x.e.lits.length cap) ∧ CellsS (fun b => S b ∨ w.heap.size ≤ b) w' a (x.e.lits.flatMap Vl.cc)) ∧ w.grownBy w' none := by
  obtain ⟨k1, c1, rr1, v1, o1, la1, lc1, li1, ka1, kc1, ks1, pp1⟩ := x
  have hli : li1.length ≤ 12 := by
    rw [Pm.e] at hf; exact hf.1
  have hn : (Pm.mk k1 c1 rr1 v1 o1 la1 lc1 li1 ka1 kc1 ks1 pp1).e.lits = if k1 = 3 then [v1] else if k1 = 11 then v1 :: li1 else if k1 = 5 then li1 else [] := by
    rw [Pm.e]; rfl
  rw [hn]
  have hL : CellsS S w la1 (li1.flatMap Vl.cc) := hx.1.cellsV
  clear hn hf hx
  show Calls Tryz.prog 122 #[.agg #[.int .i64 (k1 : Nat), .string c1, .int .i64 (rr1 : Nat), .int .i64 v1.k, .int .i64 v1.n, .string v1.s, .string o1, .slice la1 li1.length lc1, .slice ka1 ks1.length kc1, .int .i64 (pp1 : Nat)]] w _
  obtain ⟨vk, vn, vs⟩ := v1
  dsimp only
  obtain ⟨n2, hn2⟩ : ∃ n, n = li1.length := ⟨_, rfl⟩
  have HL := Lib.hid hL
  have Hn2 := Lib.hid hn2
  have HL3 := Lib.hid (flat_len Vl.cc 3 Vl.cc_len li1)
  have HA : Hid (la1 = none → n2 = 0) := Lib.hid (fun e => by
    rcases hL with h | ⟨b, off, e', _⟩
    · have := congrArg List.length h
      rw [flat_len Vl.cc 3 Vl.cc_len] at this
      simp at this; omega
    · rw [e] at e'; cases e')
  rw [← hn2] at HL3 hli ⊢
  generalize ks1.length = n4 at *
  clear hL hn2
  have G1 := Lib.hid (World.grownBy_alloc w (.cells #[.int .i64 (k1 : Nat), .string c1, .int .i64 (rr1 : Nat), .int .i64 vk, .int .i64 vn, .string vs, .string o1, .slice la1 n2 lc1, .slice ka1 n4 kc1, .int .i64 (pp1 : Nat)] 33) none)
  have B1 := heap_alloc_new w (.cells #[.int .i64 (k1 : Nat), .string c1, .int .i64 (rr1 : Nat), .int .i64 vk, .int .i64 vn, .string vs, .string o1, .slice la1 n2 lc1, .slice ka1 n4 kc1, .int .i64 (pp1 : Nat)] 33)
  obtain ⟨⟨p0, p1, p2, p3, p4⟩, p5, p6, p7, p8, p9⟩ := ten_of B1
  obtain ⟨W1, hW1⟩ : ∃ W1, W1 = w.alloc (.cells #[.int .i64 (k1 : Nat), .string c1, .int .i64 (rr1 : Nat), .int .i64 vk, .int .i64 vn, .string vs, .string o1, .slice la1 n2 lc1, .slice ka1 n4 kc1, .int .i64 (pp1 : Nat)] 33) := ⟨_, rfl⟩
  have A2 := Lib.hid (heap_alloc_new W1 (.cells #[.int .i64 vk, .int .i64 vn, .string vs] 29))
  have G2 := Lib.hid (World.grownBy_alloc W1 (.cells #[.int .i64 vk, .int .i64 vn, .string vs] 29) none)
  have hsz : W1.heap.size = w.heap.size + 1 := by rw [hW1]; simp
  have HV := Lib.hid (World.ownsRow_lit (base := w.heap.size) (e := 29) (size := 3) W1 #[.int .i64 vk, .int .i64 vn, .string vs] 1 (by omega) (by decide) rfl)
  rw [hW1] at A2 G2 HV
  have HN7 := Lib.hid p7
  by_cases h3 : k1 = 3
  · rw [if_pos h3]
    subst h3
    clear p0 p1 p2 p6 p8 p9 hsz hW1 B1
    go_enter Tryz.func122, Tryz.ntmps122
    go_wp2_with fail
    go_ret
    have h := cells_blk A2.out
    rw [show ((w.alloc (.cells #[.int .i64 ((3 : Nat) : Int), .string c1, .int .i64 (rr1 : Nat), .int .i64 vk, .int .i64 vn, .string vs, .string o1, .slice la1 n2 lc1, .slice ka1 n4 kc1, .int .i64 (pp1 : Nat)] 33)).heap.size) = w.heap.size + 1 by simp] at h
    refine ⟨⟨_, ⟨1, rfl⟩, ?_⟩, G1.out.trans G2.out⟩
    rcases h with h | ⟨b, off, e, _, hr⟩
    · exact .inl h
    · cases e
      exact .inr ⟨_, _, rfl, .inr (by omega), hr⟩
  rw [if_neg h3]
  have q3 : ((k1 : Int) == 3) = false := by rw [beq_eq_false_iff_ne]; omega
  by_cases h11 : k1 = 11
  · rw [if_pos h11]
    subst h11
    clear p1 p2 p6 p8 p9 hsz hW1 B1 h3
    go_enter Tryz.func122, Tryz.ntmps122
    rw [show ((w.alloc (.cells #[.int .i64 ((11 : Nat) : Int), .string c1, .int .i64 (rr1 : Nat), .int .i64 vk, .int .i64 vn, .string vs, .string o1, .slice la1 n2 lc1, .slice ka1 n4 kc1, .int .i64 (pp1 : Nat)] 33)).heap.size) = w.heap.size + 1 by simp] at HV
    obtain ⟨a0, cap0, hv0, hw0, _⟩ := own_win HV.out
    cases hv0
    have HW := Lib.hid hw0
    have HLk := Lib.hid (HL.out.keep (.of (G1.out.trans G2.out))).atAny
    clear hw0
    go_wp2_with (at_builtin; refine wpList_append_winM (by rfl) (.tmp 14) (.tmp 16) val_elC (by rfl) HW.out (by decide) (by rfl) la1 n2 lc1 (by rfl) (li1.flatMap Vl.cc) HA.out HL3.out (by omega) HLk.out (vl_ones _) ?_)
    intro a4 cap4 w4 hw4 ho4 hb4 hc4
    have E4 := Lib.hid (And.intro hw4 (And.intro ho4 hb4))
    clear hw4 ho4 hb4 hc4
    go_wp2_with fail
    go_ret
    refine ⟨⟨a4, cap4, by
      have e : li1.length + 1 = 1 + n2 := by rw [Hn2.out, Nat.add_comm]
      first | (rw [e]; done) | (rw [e]; rfl), ?_⟩, grown_onlyN (G1.out.trans G2.out) E4.out.2.1 (fun k hk => by rw [bk_some] at hk; omega)⟩
    have := win_cells (S := fun b => S b ∨ w.heap.size ≤ b) E4.out.1 (fun k hk => by
      rcases E4.out.2.2 k hk with e | e
      · rw [bk_some] at e; exact .inr (by omega)
      · have := (G1.out.trans G2.out).size
        exact .inr (by omega))
    simpa [Vl.cc] using this
  rw [if_neg h11]
  have q11 : ((k1 : Int) == 11) = false := by rw [beq_eq_false_iff_ne]; omega
  by_cases h5 : k1 = 5
  · rw [if_pos h5]
    subst h5
    clear p1 p2 p3 p4 p5 p6 p8 p9 hsz hW1 B1 h3 h11
    go_enter Tryz.func122, Tryz.ntmps122
    go_wp2_with fail
    go_ret
    exact ⟨⟨la1, ⟨lc1, by simp [Hn2.out]⟩, (HL.out.keep (.of G1.out)).mono (fun _ _ h => .inl h)⟩, G1.out⟩
  · rw [if_neg h5]
    have q5 : ((k1 : Int) == 5) = false := by rw [beq_eq_false_iff_ne]; omega
    clear h3 h11 h5
    go_enter Tryz.func122, Tryz.ntmps122
    go_wp2_with fail
    go_ret
    exact ⟨⟨none, ⟨0, rfl⟩, .inl rfl⟩, G1.out⟩
end Go.Proofs.YtjaclmoobfeikaaGreatDoor
