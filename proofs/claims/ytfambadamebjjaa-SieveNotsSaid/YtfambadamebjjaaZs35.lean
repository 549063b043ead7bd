import Derived.Test.YtfambadamebjjaaZs34
import Derived.Test.YtfambadamebjjaaZs19
import Derived.Test.YtfambadamebjjaaZs25
import Derived.Deep.RegionHeld
import Derived.Test.YtfambadamebjjaaZs28
import Derived.Test.YtfambadamebjjaaZs13
set_option linter.unusedSimpArgs false
set_option linter.unusedVariables false
namespace Go.Proofs.Ytfambadamebjjaa
open Go.RowKit

theorem run_append_winM {sl e : TypeId} {z : Value} {sz by' : Nat} (E : ElT sl e z sz by') {w : World} {a : Option Addr} {cap n : Nat} {xs : List Value} (h : Win sz w a cap n xs) (hcap : cap ≠ 0)
  (A : Option Addr) (m c : Nat) (news : List Value) (hA : A = none → m = 0) (hnl : news.length = m * sz) (hn : n + m ≤ 1000000) (hnews : ∀ ad, A = some ad → ∀ j u, news[j]? = some u → w.cell? (ad.add j) = some u) (h1 : ∀ u ∈ news, u.oneCell' = true) (ty : TypeId) :
  ∃ a' cap' w', (Builtin.append_ #[sl, sl] ty #[.slice a n cap, .slice A m c]).run Try.prog w = .ok (.slice a' (n + m) cap') w' ∧ Win sz w' a' cap' (n + m) (xs ++ news) ∧ Only (bk a) w w' ∧ (∀ k, bk a' k → bk a k ∨ w.heap.size ≤ k) ∧ cap' ≠ 0 := by
 obtain ⟨i0, hi, hz0, hz1, hz2⟩ := E.inf
 have hlen := h.len
 have hpos := E.pos
 have hby := E.few
 have hle := h.le
 have hmx : n + m ≤ maxLen := by unfold maxLen; omega
 have hbb : (n + m) * by' ≤ 140737488355328 := by
  have : (n + m) * by' ≤ 1000000 * 256 := Nat.mul_le_mul hn hby
  omega
 obtain ⟨g, off, rfl, hc, hs, hf⟩ := h.mem.resolve_left hcap
 cases A with
 | none =>
  obtain rfl := hA rfl
  obtain rfl : news = [] := List.eq_nil_of_length_eq_zero (by omega)
  refine ⟨some ⟨g, off, none⟩, cap, w, ?_, by rw [List.append_nil]; exact h, Only.refl _ w, fun k hk => .inl hk, hcap⟩
  simp [Builtin.append_, run_underlying E.und, sizeOf, typeInfo, hi, Builtin.lenOf, Builtin.firstCells, hle, storeCells]
 | some ad =>
  by_cases hroom : n + m ≤ cap
  ·have hsz : n * sz + m * sz ≤ cap * sz := by
    have := Nat.mul_le_mul_right sz hroom
    rw [Nat.add_mul] at this; omega
   have hr := run_append_room_cells (P := Try.prog) w sl ty e i0 E.und hi g off n cap ad m c news (by rw [hz1, hnl]) (hnews ad rfl) h1 hroom
    (fun j hj => by rw [hz1, Nat.add_assoc]; exact hs _ (by omega)) (fun j hj => hf _)
   rw [hz1] at hr
   refine ⟨_, _, _, hr, h.put (by omega) (by omega) (by rw [List.length_append, hlen, hnl, Nat.add_mul]) hroom (fun j u hj => ?_), (only_setCells g news _ w).mono (fun k _ e => by rw [bk_some]; exact e), fun k hk => .inl hk, hcap⟩
   by_cases hlt : j < n * sz
   ·rw [List.getElem?_append_left (by omega)] at hj
    exact .inr ⟨.inl hlt, hj⟩
   ·rw [List.getElem?_append_right (by omega), hlen] at hj
    exact .inl ⟨by omega, hj⟩
  ·obtain ⟨v', w', hrun, r1, r2⟩ := run_append_arg_grows (P := Try.prog) w sl ty e i0 z sz by' E.und hi hz0 hz1 hz2 E.zc hpos ⟨g, off, none⟩ n cap xs hlen (fun j u hj => by rw [add_atT]; exact hc j u hj) ad m c news hnl (hnews ad rfl) (by omega) hmx hbb
   obtain ⟨a', cap', rfl, hw, hb⟩ := own_win r1
   exact ⟨a', cap', w', hrun, hw, .of_none r2, fun k hk => .inr (World.ownsRow.lt r1 k (hb k hk)).1, by have := hw.le; omega⟩
theorem Win.cut {sz : Nat} {w : World} {a : Option Addr} {cap n m : Nat} {xs ys : List Value} (h : Win sz w a cap n (xs ++ ys)) (hm : m ≤ n) (hx : xs.length = m * sz) : Win sz w a cap m xs := h.fewer hm hx
end Go.Proofs.Ytfambadamebjjaa
namespace Go.Proofs.Ytfambadamebjjaa
open Go.RowKit
def PlA (a : Option Addr) : Prop := a = none ∨ ∃ g off, a = some ⟨g, off, none⟩
theorem win_plA {sz : Nat} {w : World} {a : Option Addr} {cap n : Nat} {xs : List Value} (h : Win sz w a cap n xs) (hc : cap ≠ 0) : PlA a := by
 obtain ⟨g, off, e, _⟩ := h.mem.resolve_left hc
 exact .inr ⟨g, off, e⟩
theorem run_append_winA {sl e : TypeId} {z : Value} {sz by' : Nat} (E : ElT sl e z sz by') {w : World} {a : Option Addr} {cap n : Nat} {xs : List Value} (h : Win sz w a cap n xs)
  (A : Option Addr) (m c : Nat) (news : List Value) (hA : A = none → m = 0) (hnl : news.length = m * sz) (hn : n + m ≤ 1000000) (hnews : ∀ ad, A = some ad → ∀ j u, news[j]? = some u → w.cell? (ad.add j) = some u) (h1 : ∀ u ∈ news, u.oneCell' = true) (ty : TypeId) :
  ∃ a' cap' w', (Builtin.append_ #[sl, sl] ty #[.slice a n cap, .slice A m c]).run Try.prog w = .ok (.slice a' (n + m) cap') w' ∧ Win sz w' a' cap' (n + m) (xs ++ news) ∧ Only (bk a) w w' ∧ (∀ k, bk a' k → bk a k ∨ w.heap.size ≤ k) ∧ (PlA a → PlA a') := by
 by_cases hcap : cap = 0
 ·subst hcap
  obtain ⟨i0, hi, hz0, hz1, hz2⟩ := E.inf
  have hlen := h.len
  have hpos := E.pos
  have hby := E.few
  have hle := h.le
  obtain rfl : n = 0 := by omega
  have hxs : xs = [] := List.eq_nil_of_length_eq_zero (by omega)
  subst hxs
  have hmx : 0 + m ≤ maxLen := by unfold maxLen; omega
  have hbb : (0 + m) * by' ≤ 140737488355328 := by
   have : (0 + m) * by' ≤ 1000000 * 256 := Nat.mul_le_mul hn hby
   omega
  have fin : ∀ v' w', (Builtin.append_ #[sl, sl] ty #[.slice a 0 0, .slice A m c]).run Try.prog w = .ok v' w' → w'.ownsRow w.heap.size e sz v' (0 + m) ([] ++ news) → w.grownBy w' none → ∃ a' cap' w', (Builtin.append_ #[sl, sl] ty #[.slice a 0 0, .slice A m c]).run Try.prog w = .ok (.slice a' (0 + m) cap') w' ∧ Win sz w' a' cap' (0 + m) ([] ++ news) ∧ Only (bk a) w w' ∧ (∀ k, bk a' k → bk a k ∨ w.heap.size ≤ k) ∧ (PlA a → PlA a') := by
   intro v' w' hr ho hg
   obtain ⟨a', cap', rfl, hw, hb⟩ := own_win ho
   refine ⟨a', cap', w', hr, hw, .of_none hg, fun k hk => .inr (World.ownsRow.lt ho k (hb k hk)).1, fun _ => ?_⟩
   rcases ho.2 with ⟨e, _⟩ | ⟨g, cap, cur, e, _⟩
   ·simp only [Value.slice.injEq] at e; exact .inl e.1
   ·simp only [Value.slice.injEq] at e; exact .inr ⟨_, _, e.1⟩
  cases A with
  | none =>
   obtain rfl := hA rfl
   obtain rfl : news = [] := List.eq_nil_of_length_eq_zero (by omega)
   refine ⟨a, 0, w, ?_, by simpa using h, Only.refl _ w, fun k hk => .inl hk, id⟩
   cases a <;> simp [Builtin.append_, run_underlying E.und, sizeOf, typeInfo, hi, Builtin.lenOf, Builtin.firstCells, storeCells]
  | some ad =>
   cases a with
   | none =>
    obtain ⟨v', w', hrun, r1, r2, _⟩ := run_append_own (P := Try.prog) w w.heap.size sl ty e i0 z sz by' E.und hi hz0 hz1 hz2 E.zc hpos (.slice none 0 0) 0 [] (World.ownsRow_nil w _ _ sz) ad m c news hnl (hnews ad rfl) h1 hmx hbb (Nat.le_refl _)
    exact fin v' w' hrun r1 ⟨r2.os, r2.tape, r2.output, r2.size, fun k hk _ => r2.block k hk (by simp [Value.ownBlock])⟩
   | some a' =>
    by_cases hm : m = 0
    ·subst hm
     obtain rfl : news = [] := List.eq_nil_of_length_eq_zero (by omega)
     refine ⟨some a', 0, w, ?_, by simpa using h, Only.refl _ w, fun k hk => .inl hk, id⟩
     have hf := run_firstCells_some (P := Try.prog) w i0.size 0 ad 0 c [] (by simp) (by simp)
     simp [Builtin.append_, run_underlying E.und, sizeOf, typeInfo, hi, Builtin.lenOf, hf, storeCells]
    ·obtain ⟨v', w', hrun, r1, r2⟩ := run_append_arg_grows (P := Try.prog) w sl ty e i0 z sz by' E.und hi hz0 hz1 hz2 E.zc hpos a' 0 0 [] (by simp) (by intro _ _ h'; simp at h') ad m c news hnl (hnews ad rfl) (by omega) hmx hbb
     exact fin v' w' hrun r1 r2
 ·obtain ⟨a', cap', w', h2, h3, h4, h5, h6⟩ := run_append_winM E h hcap A m c news hA hnl hn hnews h1 ty
  exact ⟨a', cap', w', h2, h3, h4, h5, fun _ => win_plA h3 h6⟩
theorem wp_append_winA {o : Oper} {act : Act} {K : Act → World → Prop} {Q : Exit → Act → World → Prop} {w : World} (s x : Operand) {sl e : TypeId} {z : Value} {sz by' : Nat} (E : ElT sl e z sz by')
  (ho : o.op = .call { callee := .builtin .append, args := #[s, x], argTypes := #[sl, sl] })
  {a : Option Addr} {cap n : Nat} {xs : List Value} (h : Win sz w a cap n xs)
  (hs : act.eval s = .slice a n cap) (A : Option Addr) (m c : Nat) (hx : act.eval x = .slice A m c) (news : List Value) (hA : A = none → m = 0) (hnl : news.length = m * sz) (hn : n + m ≤ 1000000) (hnews : ∀ ad, A = some ad → ∀ j u, news[j]? = some u → w.cell? (ad.add j) = some u) (h1 : ∀ u ∈ news, u.oneCell' = true)
  (hk : ∀ a' cap' w', Win sz w' a' cap' (n + m) (xs ++ news) → Only (bk a) w w' → (∀ k, bk a' k → bk a k ∨ w.heap.size ≤ k) → (PlA a → PlA a') → K (act.put o.dst (.slice a' (n + m) cap')) w') :
  Oper.wp Try.prog o act w K Q := by
 obtain ⟨a', cap', w', hr, h2, h3, h4, h5⟩ := run_append_winA E h A m c news hA hnl hn hnews h1 o.type
 unfold Oper.wp execOp
 simp only [ho, resolve, invoke, builtin, Sem.run_bind, Sem.run_pure, Result.andThen_ok, List.map_toArray, List.map_cons, List.map_nil, hs, hx, hr]
 exact hk a' cap' w' h2 h3 h4 h5
theorem wpList_append_winA {ops : Array Oper} {rest : List Oper} {o : Oper} {act : Act} {Q : Exit → Act → World → Prop} {w : World} (hgd : o.guard = none) (s x : Operand) {sl e : TypeId} {z : Value} {sz by' : Nat} (E : ElT sl e z sz by')
  (ho : o.op = .call { callee := .builtin .append, args := #[s, x], argTypes := #[sl, sl] })
  {a : Option Addr} {cap n : Nat} {xs : List Value} (h : Win sz w a cap n xs)
  (hs : act.eval s = .slice a n cap) (A : Option Addr) (m c : Nat) (hx : act.eval x = .slice A m c) (news : List Value) (hA : A = none → m = 0) (hnl : news.length = m * sz) (hn : n + m ≤ 1000000) (hnews : ∀ ad, A = some ad → ∀ j u, news[j]? = some u → w.cell? (ad.add j) = some u) (h1 : ∀ u ∈ news, u.oneCell' = true)
  (hk : ∀ a' cap' w', Win sz w' a' cap' (n + m) (xs ++ news) → Only (bk a) w w' → (∀ k, bk a' k → bk a k ∨ w.heap.size ≤ k) → (PlA a → PlA a') → wpList Try.prog ops Q rest (act.put o.dst (.slice a' (n + m) cap')) w') :
  wpList Try.prog ops Q (o :: rest) act w := by
 refine wpList_plain hgd fun K hK' => ?_
 exact wp_append_winA s x E ho h hs A m c hx news hA hnl hn hnews h1 fun a' cap' w' h2 h3 h4 h5 => hK' _ _ (hk a' cap' w' h2 h3 h4 h5)
end Go.Proofs.Ytfambadamebjjaa
namespace Go.Proofs.Ytfambadamebjjaa
open Go.RowKit

mutual
def Pm.alls : Pm → List Pm
 | .mk k c r v o la lc l ka kc ks p => Pm.allsL ks ++ [.mk k c r v o la lc l ka kc ks p]
def Pm.allsL : List Pm → List Pm
 | [] => []
 | x :: r => x.alls ++ Pm.allsL r
end
theorem Pm.alls_eq : ∀ x : Pm, x.alls = Pm.allsL x.kids ++ [x] | .mk .. => by rw [Pm.alls]; rfl
theorem Pm.allsL_app : ∀ l m : List Pm, Pm.allsL (l ++ m) = Pm.allsL l ++ Pm.allsL m
 | [], m => rfl
 | x :: l, m => by rw [List.cons_append, Pm.allsL, Pm.allsL, Pm.allsL_app l m, List.append_assoc]
mutual
theorem Pm.alls_e : ∀ x : Pm, x.alls.map Pm.e = x.e.alls
 | .mk k c r v o la lc l ka kc ks p => by
  rw [Pm.alls, List.map_append, Pm.allsL_e ks, Pm.e, Prd.alls]; simp [Pm.e]
theorem Pm.allsL_e : ∀ l : List Pm, (Pm.allsL l).map Pm.e = Prd.allsL (Pm.es l)
 | [] => rfl
 | x :: r => by rw [Pm.allsL, List.map_append, Pm.alls_e x, Pm.allsL_e r, Pm.es, Prd.allsL]
end
mutual
theorem Pm.alls_n : ∀ x : Pm, x.alls.length = x.n
 | .mk k c r v o la lc l ka kc ks p => by
  rw [Pm.alls, List.length_append, Pm.allsL_n ks, Pm.n]; simp; omega
theorem Pm.allsL_n : ∀ l : List Pm, (Pm.allsL l).length = Pm.ns l
 | [] => rfl
 | x :: r => by rw [Pm.allsL, List.length_append, Pm.alls_n x, Pm.allsL_n r, Pm.ns]
end
mutual
theorem PmS.alls {S : Nat → Prop} {w : World} : ∀ {x : Pm}, PmS S w x → ∀ y ∈ x.alls, PmS S w y
 | .mk k c r v o la lc l ka kc ks p, h, y, hy => by
  rw [Pm.alls, List.mem_append, List.mem_singleton] at hy
  rcases hy with hy | rfl
  ·exact PmSs.alls h.2.2.2.2 y hy
  ·exact h
theorem PmSs.alls {S : Nat → Prop} {w : World} : ∀ {l : List Pm}, PmSs S w l → ∀ y ∈ Pm.allsL l, PmS S w y
 | [], _, y, hy => by simp [Pm.allsL] at hy
 | x :: r, h, y, hy => by
  rw [Pm.allsL, List.mem_append] at hy
  rcases hy with hy | hy
  ·exact PmS.alls h.1 y hy
  ·exact PmSs.alls h.2 y hy
end
def Turned (l cur : List Pm) (i : Nat) : Prop := cur.length = l.length ∧ ∀ t, t < l.length → cur.getD t default = if t < i ∨ l.length ≤ t + i then l.getD (l.length - 1 - t) default else l.getD t default
theorem Turned.start (l : List Pm) : Turned l l 0 := ⟨rfl, fun t ht => by rw [if_neg (by omega)]⟩
theorem Turned.all {l cur : List Pm} {i : Nat} (h : Turned l cur i) (hi : l.length ≤ 2 * i + 1) : cur = l.reverse := by
 refine List.ext_getElem (by rw [h.1, List.length_reverse]) fun t h1 h2 => ?_
 have ht : t < l.length := by rw [← h.1]; exact h1
 have := h.2 t ht
 rw [List.getD_eq_getElem?_getD, List.getElem?_eq_getElem h1, Option.getD_some] at this
 rw [this, List.getElem_reverse]
 split
 ·rw [List.getD_eq_getElem?_getD, List.getElem?_eq_getElem (by omega), Option.getD_some]
 ·have e : t = l.length - 1 - t := by omega
  rw [List.getD_eq_getElem?_getD, List.getElem?_eq_getElem ht, Option.getD_some]
  congr 1
theorem getD_set {α : Type} [Inhabited α] (l : List α) (p t : Nat) (x : α) (hp : p < l.length) : (l.set p x).getD t default = if p = t then x else l.getD t default := by
 rw [List.getD_eq_getElem?_getD, List.getElem?_set, List.getD_eq_getElem?_getD]
 by_cases e : p = t
 ·subst e; simp [hp]
 ·simp [e]
theorem Turned.step {l cur : List Pm} {i : Nat} (h : Turned l cur i) (hi : 2 * i + 1 < l.length) : Turned l ((cur.set i (cur.getD (l.length - 1 - i) default)).set (l.length - 1 - i) (cur.getD i default)) (i + 1) := by
 refine ⟨by simp [h.1], fun t ht => ?_⟩
 rw [getD_set _ _ _ _ (by rw [List.length_set, h.1]; omega), getD_set _ _ _ _ (by rw [h.1]; omega)]
 have e1 := h.2 (l.length - 1 - i) (by omega)
 have e2 := h.2 i (by omega)
 rw [if_neg (by omega)] at e1 e2
 by_cases a : l.length - 1 - i = t
 ·rw [if_pos a, e2, if_pos (by omega)]
  congr 1; omega
 ·rw [if_neg a]
  by_cases b : i = t
  ·rw [if_pos b, e1, if_pos (by omega), b]
  ·rw [if_neg b, h.2 t ht]
   by_cases c : t < i ∨ l.length ≤ t + i
   ·rw [if_pos c, if_pos (by omega)]
   ·rw [if_neg c, if_neg (by omega)]
end Go.Proofs.Ytfambadamebjjaa
namespace Go.Proofs.Ytfambadamebjjaa
open Go.RowKit
def lenV : Value → Nat
 | .slice _ n _ => n
 | _ => 0
def ItsGo (b o n k d : Nat) (T : List Tk) (r : RS × List Itm) (w : World) (e : Ending) (w' : World) : Prop :=
 ∃ (i' c' a' : Nat) (arr : Option Addr) (cap : Nat) (l : List Itm), e = .returned (.tuple #[.agg #[.slice (some ⟨b, o, none⟩) n k, .int .i64 i', .int .i64 d, .int .i64 c', .int .i64 a'], .slice arr l.length cap]) ∧ Win 3 w' arr cap l.length (l.flatMap Itm.c) ∧ (∀ k, bk arr k → w.heap.size ≤ k) ∧ SR n T r.1 i' c' a' ∧ (c' = 0 → l.map Itm.e = r.2.map Itm.e) ∧ w.grownBy w' none
def ItsIn (b o n k d : Nat) (T : List Tk) (ag : Bool) (r : RS × List Itm) (w : World) (v : Value) (wr : World) : Prop :=
 ∃ (j i' c' a' : Nat) (t : RS) (arr : Option Addr) (cap : Nat) (l acc : List Itm), v = .slice arr j cap ∧ l.length = j ∧ acc.length = j ∧ j ≤ 8 ∧ l.map Itm.e = acc.map Itm.e ∧ listF 8 (nextL ag) (9 - j) t acc = r ∧ SR n T t i' c' a' ∧ Win 3 wr arr cap j (l.flatMap Itm.c) ∧ (∀ k, bk arr k → w.heap.size + 1 < k) ∧ wr.heap[w.heap.size]? = some (.cells #[.slice (some ⟨b, o, none⟩) n k, .int .i64 i', .int .i64 d, .int .i64 c', .int .i64 a'] 81) ∧ wr.heap[w.heap.size + 1]? = some (.cells #[.slice none 0 0, .int .i64 0, .int .i64 0, .int .i64 0, .int .i64 0] 81) ∧ w.grownBy wr none
set_option linter.unusedSimpArgs false in
set_option maxRecDepth 100000 in
set_option maxHeartbeats 6400000 in
theorem ritems_true (b o n k : Nat) (T : List Tk) (s : RS) (w : World) (h : TkE b o n k T w) (i d c a : Nat) (hs : SR n T s i c a) :
  Calls Try.prog 34 #[.agg #[.slice (some ⟨b, o, none⟩) n k, .int .i64 i, .int .i64 d, .int .i64 c, .int .i64 a], .bool true] w (ItsGo b o n k d T (listF 8 (nextL true) 9 s []) w) := by
 have HH := Lib.hid h
 have A1 := Lib.hid (alc2a w (.cells #[.slice (some ⟨b, o, none⟩) n k, .int .i64 i, .int .i64 d, .int .i64 c, .int .i64 a] 81) (.cells #[.slice none 0 0, .int .i64 0, .int .i64 0, .int .i64 0, .int .i64 0] 81))
 have R1 := Lib.hid (alc2b w (.cells #[.slice (some ⟨b, o, none⟩) n k, .int .i64 i, .int .i64 d, .int .i64 c, .int .i64 a] 81) (.cells #[.slice none 0 0, .int .i64 0, .int .i64 0, .int .i64 0, .int .i64 0] 81))
 have G1 := Lib.hid (gq_al (gq_al (grown_reflT w none) (.cells #[.slice (some ⟨b, o, none⟩) n k, .int .i64 i, .int .i64 d, .int .i64 c, .int .i64 a] 81)) (.cells #[.slice none 0 0, .int .i64 0, .int .i64 0, .int .i64 0, .int .i64 0] 81))
 have S1 := Lib.hid hs
 obtain ⟨r, hr⟩ : ∃ r, r = listF 8 (nextL true) 9 s [] := ⟨_, rfl⟩
 rw [← hr]
 have HR0 := Lib.hid hr.symm
 clear h hs hr
 go_enter Try.func34, Try.ntmps34
 go_wp2_with fail
 go_loopw [6] (fun s6 wr => ItsIn b o n k d T true r w s6 wr) (fun s6 _ => 9 - lenV s6)
 case atStart => exact ⟨0, i, c, a, s, none, 0, [], [], rfl, rfl, rfl, by omega, rfl, HR0.out, S1.out, Win.nil 3 _, fun k hk => by simp [bk] at hk, A1.out, R1.out, G1.out⟩
 case round =>
  obtain ⟨j, i1, d1, a1, t, arr, cap, l, acc, rfl, hl, ha, hj, hm, hr, hS, hW, hf, hA, hR, hG⟩ := hrel
  have HL := Lib.hid hl
  have HA := Lib.hid ha
  have HM := Lib.hid hm
  have HRr := Lib.hid hr
  have FA := Lib.hid hf
  have S0 := Lib.hid hS
  clear hl ha hm hr hf hS
  by_cases h8 : j = 8
  ·have g8 : (8 : Int) ≤ j := by omega
   have HF := Lib.hid (fun W (hW : w.grownBy W none) => rfail_any b o n k T t W (HH.out.keep hW) i1 d d1 a1 3 S0.out (by decide))
   have HRes : Hid (r = (t.wrong 3, acc)) := Lib.hid (by rw [← HRr.out, h8]; exact listF_fullD (by rw [HA.out, h8]))
   have AZ := Lib.hid hA
   have RZ := Lib.hid hR
   have GZ := Lib.hid hG
   have WZ := Lib.hid hW
   clear hA hR hG hW h8
   obtain ⟨⟨c0, c1, c2, c3, c4⟩, f0, f1, f2, f3, f4⟩ := boxD5 AZ.out
   go_wp2_with fail
   refine (HF.out _ GZ.out).mono ?_
   rintro e wy ⟨⟨c3', a3, rfl, hSA⟩, hg⟩
   have SA := Lib.hid hSA
   have hca : c3' ≠ 0 := fun e => by
    have := hSA.err0.2 e
    cases this
   have AY := Lib.hid (blkD hg AZ.out)
   have RY := Lib.hid (blkD hg RZ.out)
   have GY := Lib.hid (GZ.out.trans hg)
   have WY := Lib.hid (WZ.out.keepG hg)
   clear c0 c1 c2 c3 c4 f0 f1 f2 f3 f4
   clear hg hSA AZ RZ WZ HF
   obtain ⟨⟨c0, c1, c2, c3, c4⟩, f0, f1, f2, f3, f4⟩ := boxD5 AY.out
   have g6 := grownD5 wy w.heap.size (.slice (some ⟨b, o, none⟩) n k) (.int .i64 i1) (.int .i64 d) (.int .i64 c3') (.int .i64 a3)
   go_upto_region 4 with fail
   have AA := Lib.hid (setD5 (u0 := .slice (some ⟨b, o, none⟩) n k) (u1 := .int .i64 i1) (u2 := .int .i64 d) (u3 := .int .i64 c3') (u4 := .int .i64 a3) AY.out)
   have RA := Lib.hid (blkR RY.out g6 (by omega))
   have GA := Lib.hid (grown_thenX GY.out g6 (fun j e => by cases e; exact Nat.le_refl _))
   have WA := Lib.hid (WY.out.keep (Only.of_grown g6) (fun k hk e => by cases e; exact absurd (FA.out _ hk) (by omega)))
   clear c0 c1 c2 c3 c4 f0 f1 f2 f3 f4
   clear AY RY WY g6
   generalize ((((wy.setCell ⟨w.heap.size, 0, none⟩ (.slice (some ⟨b, o, none⟩) n k)).setCell ⟨w.heap.size, 1, none⟩ (.int .i64 i1)).setCell ⟨w.heap.size, 2, none⟩ (.int .i64 d)).setCell ⟨w.heap.size, 3, none⟩ (.int .i64 c3')).setCell ⟨w.heap.size, 4, none⟩ (.int .i64 a3) = wa at *
   have HNw := Lib.hid (fun W (hW : w.grownBy W none) => rnow_any b o n k T W (HH.out.keep hW) i1 d c3' a3 SA.out.lt)
   have HIt := Lib.hid (fun W (hW : w.grownBy W none) => ritem_any b o n k T (t.wrong 3) W (HH.out.keep hW) i1 d c3' a3 SA.out)
   generalize (tkA T i1) = tk at *
   obtain ⟨kd, tx, ps⟩ := tk
   simp only at *
   obtain ⟨⟨c0, c1, c2, c3, c4⟩, f0, f1, f2, f3, f4⟩ := boxD5 AA.out
   go_wp2_with fail
   refine (HNw.out _ GA.out).mono ?_
   rintro e wb ⟨rfl, hg⟩
   have AB := Lib.hid (blkD hg AA.out)
   have RB := Lib.hid (blkD hg RA.out)
   have GB := Lib.hid (GA.out.trans hg)
   have WB := Lib.hid (WA.out.keepG hg)
   clear c0 c1 c2 c3 c4 f0 f1 f2 f3 f4
   have t1 := fieldD2 (.int .i64 kd) (.string tx) (.int .i64 ps) wb
   clear hg HNw AA RA WA
   obtain ⟨⟨c0, c1, c2, c3, c4⟩, f0, f1, f2, f3, f4⟩ := boxD5 AB.out
   go_upto_region 6 with fail
   obtain ⟨wc, hwc⟩ : ∃ wc, wc = wb.alloc (.cells #[.int .i64 0, .string ⟨#[]⟩, .int .i64 ps] 106) := ⟨_, rfl⟩
   have gz : wb.grownBy wc none := by rw [hwc]; exact World.grownBy_alloc wb _ none
   have XC : Hid (wc.heap[wb.heap.size]? = some (.cells #[.int .i64 0, .string ⟨#[]⟩, .int .i64 ps] 106 (0, 0))) := Lib.hid (by rw [hwc]; exact alc1 wb _)
   rw [← hwc]
   have AC := Lib.hid (blkD gz AB.out)
   have RC := Lib.hid (blkD gz RB.out)
   have GC := Lib.hid (GB.out.trans gz)
   have WC := Lib.hid (WB.out.keepG gz)
   have hxb := Lib.hid (fun k hk => Nat.ne_of_lt (WB.out.lt k hk))
   have hRb : w.heap.size + 1 < wb.heap.size := (Array.getElem?_eq_some_iff.1 RB.out).1
   clear c0 c1 c2 c3 c4 f0 f1 f2 f3 f4
   clear gz hwc AB RB WB t1
   obtain ⟨⟨c0, c1, c2, c3, c4⟩, f0, f1, f2, f3, f4⟩ := boxD5 AC.out
   go_wp2_with fail
   refine (HIt.out _ GC.out).mono ?_
   rintro e wd ⟨⟨i2, c2', a2, ⟨p2, rfl⟩, hS2⟩, hg⟩
   have S2 : Hid (SR n T (nextL true (t.wrong 3)).1 i2 c2' a2) := Lib.hid hS2
   have AD := Lib.hid (blkD hg AC.out)
   have RD := Lib.hid (blkD hg RC.out)
   have XD := Lib.hid (blkD hg XC.out)
   have GD := Lib.hid (GC.out.trans hg)
   have WD := Lib.hid (WC.out.keepG hg)
   clear c0 c1 c2 c3 c4 f0 f1 f2 f3 f4
   clear hg hS2 HIt AC RC XC WC
   obtain ⟨⟨c0, c1, c2, c3, c4⟩, f0, f1, f2, f3, f4⟩ := boxD5 AD.out
   have g6 := grownD5 wd w.heap.size (.slice (some ⟨b, o, none⟩) n k) (.int .i64 i2) (.int .i64 d) (.int .i64 c2') (.int .i64 a2)
   obtain ⟨⟨v0, v1, v2⟩, e0, e1, e2⟩ := boxD3 (blkR XD.out g6 (by omega))
   go_upto_region 8 with fail
   obtain ⟨we, hwe⟩ : ∃ we, we = (((((((wd.setCell ⟨w.heap.size, 0, none⟩ (.slice (some ⟨b, o, none⟩) n k)).setCell ⟨w.heap.size, 1, none⟩ (.int .i64 i2)).setCell ⟨w.heap.size, 2, none⟩ (.int .i64 d)).setCell ⟨w.heap.size, 3, none⟩ (.int .i64 c2')).setCell ⟨w.heap.size, 4, none⟩ (.int .i64 a2)).setCell ⟨wb.heap.size, 0, none⟩ (.int .i64 ((itemL (t.wrong 3)).2.agg : Nat))).setCell ⟨wb.heap.size, 1, none⟩ (.string (itemL (t.wrong 3)).2.col)).setCell ⟨wb.heap.size, 2, none⟩ (.int .i64 p2) := ⟨_, rfl⟩
   have gx : (((((wd.setCell ⟨w.heap.size, 0, none⟩ (.slice (some ⟨b, o, none⟩) n k)).setCell ⟨w.heap.size, 1, none⟩ (.int .i64 i2)).setCell ⟨w.heap.size, 2, none⟩ (.int .i64 d)).setCell ⟨w.heap.size, 3, none⟩ (.int .i64 c2')).setCell ⟨w.heap.size, 4, none⟩ (.int .i64 a2)).grownBy we (some wb.heap.size) := by rw [hwe]; exact grownD3 _ _ _ _ _
   have AE := Lib.hid (blkR (setD5 AD.out) gx (by omega))
   have XE : Hid (we.heap[wb.heap.size]? = some (.cells #[.int .i64 ((itemL (t.wrong 3)).2.agg : Nat), .string (itemL (t.wrong 3)).2.col, .int .i64 p2] 106 (0, 0))) := Lib.hid (by rw [hwe]; exact setD3 (blkR XD.out g6 (by omega)))
   have RE := Lib.hid (blkR (blkR RD.out g6 (by omega)) gx (by omega))
   have GE := Lib.hid (grown_thenX (grown_thenX GD.out g6 (fun j e => by cases e; exact Nat.le_refl _)) gx (fun j e => by cases e; omega))
   have WE := Lib.hid ((WD.out.keep (Only.of_grown g6) (fun k hk e => by cases e; exact absurd (FA.out _ hk) (by omega))).keep (Only.of_grown gx) (fun k hk e => by cases e; exact absurd rfl (hxb.out _ hk)))
   rw [← hwe]
   clear c0 c1 c2 c3 c4 f0 f1 f2 f3 f4
   clear hwe gx g6 AD RD XD WD v0 v1 v2 e0 e1 e2 hxb
   have hAe : w.heap.size < we.heap.size := (Array.getElem?_eq_some_iff.1 AE.out).1
   have hRe : w.heap.size + 1 < we.heap.size := (Array.getElem?_eq_some_iff.1 RE.out).1
   obtain ⟨⟨v0, v1, v2⟩, e0, e1, e2⟩ := boxD3 XE.out
   go_wp2_with (refine wpList_append_winA rfl (.tmp 29) (.tmp 31) itm_el (by rfl) (WE.out.keepG (World.grownBy_alloc we (.cells #[.int .i64 ((itemL (t.wrong 3)).2.agg : Nat), .string (itemL (t.wrong 3)).2.col, .int .i64 p2] 106) none)) (by rfl) (some ⟨we.heap.size, 0, none⟩) 1 1 (by rfl) [.int .i64 ((itemL (t.wrong 3)).2.agg : Nat), .string (itemL (t.wrong 3)).2.col, .int .i64 p2] (fun e => by cases e) rfl (by omega) (fun ad e j u hj => by cases e; rw [add_atT]; rw [cell_of_row _ _ (0 + j) _ _ _ (alc1 we _)]; simpa using hj) (by simp [Value.oneCell']) ?_)
   intro arr2 cap2 wf z2 o2 b2 _
   have ga := World.grownBy_alloc we (.cells #[.int .i64 ((itemL (t.wrong 3)).2.agg : Nat), .string (itemL (t.wrong 3)).2.col, .int .i64 p2] 106) none
   have GF := Lib.hid (grown_onlyN (GE.out.trans ga) o2 (fun k hk => Nat.le_of_lt (Nat.lt_of_succ_lt (FA.out k hk))))
   have AF := Lib.hid ((o2.block _ (Nat.lt_of_lt_of_le hAe ga.size) (fun hk => absurd (FA.out _ hk) (by omega))).trans (blkD ga AE.out))
   have RF := Lib.hid ((o2.block _ (Nat.lt_of_lt_of_le hRe ga.size) (fun hk => absurd (FA.out _ hk) (by omega))).trans (blkD ga RE.out))
   have FF : Hid (∀ k, bk arr2 k → w.heap.size + 1 < k) := Lib.hid (fun k hk => (b2 k hk).elim (FA.out k) (fun e => by first | omega | (simp at e; omega)))
   have WF : Hid (Win 3 wf arr2 cap2 (j + 1) ((l ++ [(⟨(itemL (t.wrong 3)).2.agg, (itemL (t.wrong 3)).2.col, p2⟩ : Itm)]).flatMap Itm.c)) := Lib.hid (by
    rw [List.flatMap_append]
    exact z2)
   have HI := Lib.hid (fun W (hW : w.grownBy W none) => ris_any b o n k T (nextL true (t.wrong 3)).1 W (HH.out.keep hW) i2 d c2' a2 bComma S2.out (.inr (by decide +kernel)))
   clear z2 o2 b2 ga AE RE XE WE v0 v1 v2 e0 e1 e2
   obtain ⟨⟨c0, c1, c2, c3, c4⟩, f0, f1, f2, f3, f4⟩ := boxD5 AF.out
   go_wp2_with fail
   refine (HI.out _ GF.out).mono ?_
   rintro e wg ⟨rfl, hg⟩
   have AG := Lib.hid (blkD hg AF.out)
   have RG := Lib.hid (blkD hg RF.out)
   have GG := Lib.hid (GF.out.trans hg)
   have WG := Lib.hid (WF.out.keepG hg)
   clear c0 c1 c2 c3 c4 f0 f1 f2 f3 f4
   clear hg AF RF WF HI
   have hcm := S2.out.bad_comes (SA.out.ninth true hca S2.out).1 (t := bComma) (.inr (by decide +kernel))
   rw [hcm]
   clear hcm
   obtain ⟨⟨c0, c1, c2, c3, c4⟩, f0, f1, f2, f3, f4⟩ := boxD5 AG.out
   obtain ⟨⟨r0, r1, r2, r3, r4⟩, q0, q1, q2, q3, q4⟩ := boxD5 RG.out
   go_wp2_with fail
   have g9 := grownD5 wg (w.heap.size + 1) (.slice (some ⟨b, o, none⟩) n k) (.int .i64 i2) (.int .i64 d) (.int .i64 c2') (.int .i64 a2)
   refine bodyPost_ret (res_ct rfl _ _ (w.heap.size + 1) _ rfl (setD5 RG.out) rfl) rfl ⟨i2, c2', a2, arr2, cap2, l ++ [(⟨(itemL (t.wrong 3)).2.agg, (itemL (t.wrong 3)).2.col, p2⟩ : Itm)], ?_, ?_, fun k hk => Nat.le_of_lt (Nat.lt_of_succ_lt (FF.out k hk)), ?_, ?_, grown_thenX GG.out g9 (fun j e => by cases e; exact Nat.le_succ _)⟩
   ·rw [List.length_append, HL.out]; rfl
   ·have := WG.out.keep (Only.of_grown g9) (fun k hk e => by cases e; exact absurd (FF.out _ hk) (by omega))
    rw [List.length_append, HL.out]
    exact this
   ·rw [HRes.out]
    exact (SA.out.ninth true hca S2.out).2
   ·intro h0
    exact absurd h0 (SA.out.ninth true hca S2.out).1
  ·have g8 : ¬ (8 : Int) ≤ j := by omega
   have SA := S0
   have HRes := HRr
   have AA := Lib.hid hA
   have RA := Lib.hid hR
   have GA := Lib.hid hG
   have WA := Lib.hid hW
   clear hA hR hG hW
   have HNw := Lib.hid (fun W (hW : w.grownBy W none) => rnow_any b o n k T W (HH.out.keep hW) i1 d d1 a1 SA.out.lt)
   have HIt := Lib.hid (fun W (hW : w.grownBy W none) => ritem_any b o n k T t W (HH.out.keep hW) i1 d d1 a1 SA.out)
   generalize (tkA T i1) = tk at *
   obtain ⟨kd, tx, ps⟩ := tk
   simp only at *
   obtain ⟨⟨c0, c1, c2, c3, c4⟩, f0, f1, f2, f3, f4⟩ := boxD5 AA.out
   go_wp2_with fail
   refine (HNw.out _ GA.out).mono ?_
   rintro e wb ⟨rfl, hg⟩
   have AB := Lib.hid (blkD hg AA.out)
   have RB := Lib.hid (blkD hg RA.out)
   have GB := Lib.hid (GA.out.trans hg)
   have WB := Lib.hid (WA.out.keepG hg)
   clear c0 c1 c2 c3 c4 f0 f1 f2 f3 f4
   have t1 := fieldD2 (.int .i64 kd) (.string tx) (.int .i64 ps) wb
   clear hg HNw AA RA WA
   obtain ⟨⟨c0, c1, c2, c3, c4⟩, f0, f1, f2, f3, f4⟩ := boxD5 AB.out
   go_upto_region 6 with fail
   obtain ⟨wc, hwc⟩ : ∃ wc, wc = wb.alloc (.cells #[.int .i64 0, .string ⟨#[]⟩, .int .i64 ps] 106) := ⟨_, rfl⟩
   have gz : wb.grownBy wc none := by rw [hwc]; exact World.grownBy_alloc wb _ none
   have XC : Hid (wc.heap[wb.heap.size]? = some (.cells #[.int .i64 0, .string ⟨#[]⟩, .int .i64 ps] 106 (0, 0))) := Lib.hid (by rw [hwc]; exact alc1 wb _)
   rw [← hwc]
   have AC := Lib.hid (blkD gz AB.out)
   have RC := Lib.hid (blkD gz RB.out)
   have GC := Lib.hid (GB.out.trans gz)
   have WC := Lib.hid (WB.out.keepG gz)
   have hxb := Lib.hid (fun k hk => Nat.ne_of_lt (WB.out.lt k hk))
   have hRb : w.heap.size + 1 < wb.heap.size := (Array.getElem?_eq_some_iff.1 RB.out).1
   clear c0 c1 c2 c3 c4 f0 f1 f2 f3 f4
   clear gz hwc AB RB WB t1
   obtain ⟨⟨c0, c1, c2, c3, c4⟩, f0, f1, f2, f3, f4⟩ := boxD5 AC.out
   go_wp2_with fail
   refine (HIt.out _ GC.out).mono ?_
   rintro e wd ⟨⟨i2, c2', a2, ⟨p2, rfl⟩, hS2⟩, hg⟩
   have S2 : Hid (SR n T (nextL true t).1 i2 c2' a2) := Lib.hid hS2
   have AD := Lib.hid (blkD hg AC.out)
   have RD := Lib.hid (blkD hg RC.out)
   have XD := Lib.hid (blkD hg XC.out)
   have GD := Lib.hid (GC.out.trans hg)
   have WD := Lib.hid (WC.out.keepG hg)
   clear c0 c1 c2 c3 c4 f0 f1 f2 f3 f4
   clear hg hS2 HIt AC RC XC WC
   obtain ⟨⟨c0, c1, c2, c3, c4⟩, f0, f1, f2, f3, f4⟩ := boxD5 AD.out
   have g6 := grownD5 wd w.heap.size (.slice (some ⟨b, o, none⟩) n k) (.int .i64 i2) (.int .i64 d) (.int .i64 c2') (.int .i64 a2)
   obtain ⟨⟨v0, v1, v2⟩, e0, e1, e2⟩ := boxD3 (blkR XD.out g6 (by omega))
   go_upto_region 8 with fail
   obtain ⟨we, hwe⟩ : ∃ we, we = (((((((wd.setCell ⟨w.heap.size, 0, none⟩ (.slice (some ⟨b, o, none⟩) n k)).setCell ⟨w.heap.size, 1, none⟩ (.int .i64 i2)).setCell ⟨w.heap.size, 2, none⟩ (.int .i64 d)).setCell ⟨w.heap.size, 3, none⟩ (.int .i64 c2')).setCell ⟨w.heap.size, 4, none⟩ (.int .i64 a2)).setCell ⟨wb.heap.size, 0, none⟩ (.int .i64 ((itemL t).2.agg : Nat))).setCell ⟨wb.heap.size, 1, none⟩ (.string (itemL t).2.col)).setCell ⟨wb.heap.size, 2, none⟩ (.int .i64 p2) := ⟨_, rfl⟩
   have gx : (((((wd.setCell ⟨w.heap.size, 0, none⟩ (.slice (some ⟨b, o, none⟩) n k)).setCell ⟨w.heap.size, 1, none⟩ (.int .i64 i2)).setCell ⟨w.heap.size, 2, none⟩ (.int .i64 d)).setCell ⟨w.heap.size, 3, none⟩ (.int .i64 c2')).setCell ⟨w.heap.size, 4, none⟩ (.int .i64 a2)).grownBy we (some wb.heap.size) := by rw [hwe]; exact grownD3 _ _ _ _ _
   have AE := Lib.hid (blkR (setD5 AD.out) gx (by omega))
   have XE : Hid (we.heap[wb.heap.size]? = some (.cells #[.int .i64 ((itemL t).2.agg : Nat), .string (itemL t).2.col, .int .i64 p2] 106 (0, 0))) := Lib.hid (by rw [hwe]; exact setD3 (blkR XD.out g6 (by omega)))
   have RE := Lib.hid (blkR (blkR RD.out g6 (by omega)) gx (by omega))
   have GE := Lib.hid (grown_thenX (grown_thenX GD.out g6 (fun j e => by cases e; exact Nat.le_refl _)) gx (fun j e => by cases e; omega))
   have WE := Lib.hid ((WD.out.keep (Only.of_grown g6) (fun k hk e => by cases e; exact absurd (FA.out _ hk) (by omega))).keep (Only.of_grown gx) (fun k hk e => by cases e; exact absurd rfl (hxb.out _ hk)))
   rw [← hwe]
   clear c0 c1 c2 c3 c4 f0 f1 f2 f3 f4
   clear hwe gx g6 AD RD XD WD v0 v1 v2 e0 e1 e2 hxb
   have hAe : w.heap.size < we.heap.size := (Array.getElem?_eq_some_iff.1 AE.out).1
   have hRe : w.heap.size + 1 < we.heap.size := (Array.getElem?_eq_some_iff.1 RE.out).1
   obtain ⟨⟨v0, v1, v2⟩, e0, e1, e2⟩ := boxD3 XE.out
   go_wp2_with (refine wpList_append_winA rfl (.tmp 29) (.tmp 31) itm_el (by rfl) (WE.out.keepG (World.grownBy_alloc we (.cells #[.int .i64 ((itemL t).2.agg : Nat), .string (itemL t).2.col, .int .i64 p2] 106) none)) (by rfl) (some ⟨we.heap.size, 0, none⟩) 1 1 (by rfl) [.int .i64 ((itemL t).2.agg : Nat), .string (itemL t).2.col, .int .i64 p2] (fun e => by cases e) rfl (by omega) (fun ad e j u hj => by cases e; rw [add_atT]; rw [cell_of_row _ _ (0 + j) _ _ _ (alc1 we _)]; simpa using hj) (by simp [Value.oneCell']) ?_)
   intro arr2 cap2 wf z2 o2 b2 _
   have ga := World.grownBy_alloc we (.cells #[.int .i64 ((itemL t).2.agg : Nat), .string (itemL t).2.col, .int .i64 p2] 106) none
   have GF := Lib.hid (grown_onlyN (GE.out.trans ga) o2 (fun k hk => Nat.le_of_lt (Nat.lt_of_succ_lt (FA.out k hk))))
   have AF := Lib.hid ((o2.block _ (Nat.lt_of_lt_of_le hAe ga.size) (fun hk => absurd (FA.out _ hk) (by omega))).trans (blkD ga AE.out))
   have RF := Lib.hid ((o2.block _ (Nat.lt_of_lt_of_le hRe ga.size) (fun hk => absurd (FA.out _ hk) (by omega))).trans (blkD ga RE.out))
   have FF : Hid (∀ k, bk arr2 k → w.heap.size + 1 < k) := Lib.hid (fun k hk => (b2 k hk).elim (FA.out k) (fun e => by first | omega | (simp at e; omega)))
   have WF : Hid (Win 3 wf arr2 cap2 (j + 1) ((l ++ [(⟨(itemL t).2.agg, (itemL t).2.col, p2⟩ : Itm)]).flatMap Itm.c)) := Lib.hid (by
    rw [List.flatMap_append]
    exact z2)
   have HI := Lib.hid (fun W (hW : w.grownBy W none) => ris_any b o n k T (nextL true t).1 W (HH.out.keep hW) i2 d c2' a2 bComma S2.out (.inr (by decide +kernel)))
   clear z2 o2 b2 ga AE RE XE WE v0 v1 v2 e0 e1 e2
   obtain ⟨⟨c0, c1, c2, c3, c4⟩, f0, f1, f2, f3, f4⟩ := boxD5 AF.out
   go_wp2_with fail
   refine (HI.out _ GF.out).mono ?_
   rintro e wg ⟨rfl, hg⟩
   have AG := Lib.hid (blkD hg AF.out)
   have RG := Lib.hid (blkD hg RF.out)
   have GG := Lib.hid (GF.out.trans hg)
   have WG := Lib.hid (WF.out.keepG hg)
   clear c0 c1 c2 c3 c4 f0 f1 f2 f3 f4
   clear hg AF RF WF HI
   cases hy : (nextL true t).1.comes bComma with
   | false =>
    have HRf : Hid (r = ((nextL true t).1, acc ++ [(nextL true t).2])) := Lib.hid (by rw [← HRes.out, show 9 - j = (8 - j) + 1 by omega]; exact listF_endD (by rw [HA.out]; omega) hy)
    clear hy
    obtain ⟨⟨c0, c1, c2, c3, c4⟩, f0, f1, f2, f3, f4⟩ := boxD5 AG.out
    obtain ⟨⟨r0, r1, r2, r3, r4⟩, q0, q1, q2, q3, q4⟩ := boxD5 RG.out
    go_wp2_with fail
    have g9 := grownD5 wg (w.heap.size + 1) (.slice (some ⟨b, o, none⟩) n k) (.int .i64 i2) (.int .i64 d) (.int .i64 c2') (.int .i64 a2)
    refine bodyPost_ret (res_ct rfl _ _ (w.heap.size + 1) _ rfl (setD5 RG.out) rfl) rfl ⟨i2, c2', a2, arr2, cap2, l ++ [(⟨(itemL t).2.agg, (itemL t).2.col, p2⟩ : Itm)], ?_, ?_, fun k hk => Nat.le_of_lt (Nat.lt_of_succ_lt (FF.out k hk)), ?_, ?_, grown_thenX GG.out g9 (fun j e => by cases e; exact Nat.le_succ _)⟩
    ·rw [List.length_append, HL.out]; rfl
    ·have := WG.out.keep (Only.of_grown g9) (fun k hk e => by cases e; exact absurd (FF.out _ hk) (by omega))
     rw [List.length_append, HL.out]
     exact this
    ·rw [HRf.out]
     exact S2.out
    ·intro _
     rw [HRf.out, List.map_append, List.map_append, HM.out]
     rfl
   | true =>
    have HRt : Hid (listF 8 (nextL true) (9 - (j + 1)) (nextL true t).1.pass (acc ++ [(nextL true t).2]) = r) := Lib.hid (by rw [← HRes.out, show 9 - j = (9 - (j + 1)) + 1 by omega]; exact (listF_moreD (by rw [HA.out]; omega) hy).symm)
    have HP := Lib.hid (fun W (hW : w.grownBy W none) => rpass_any b o n k T (nextL true t).1 W (HH.out.keep hW) i2 d c2' a2 bComma S2.out (.inr (by decide +kernel)) hy)
    clear hy
    obtain ⟨⟨c0, c1, c2, c3, c4⟩, f0, f1, f2, f3, f4⟩ := boxD5 AG.out
    go_wp2_with fail
    refine (HP.out _ GG.out).mono ?_
    rintro e wh ⟨⟨rfl, hSp⟩, hg⟩
    have SP := Lib.hid hSp
    have AH := Lib.hid (blkD hg AG.out)
    have RH := Lib.hid (blkD hg RG.out)
    have GH := Lib.hid (GG.out.trans hg)
    have WH := Lib.hid (WG.out.keepG hg)
    clear c0 c1 c2 c3 c4 f0 f1 f2 f3 f4
    clear hg hSp AG RG WG HP
    obtain ⟨⟨c0, c1, c2, c3, c4⟩, f0, f1, f2, f3, f4⟩ := boxD5 AH.out
    have g9 := grownD5 wh w.heap.size (.slice (some ⟨b, o, none⟩) n k) (.int .i64 ((i2 : Int) + 1)) (.int .i64 d) (.int .i64 0) (.int .i64 0)
    go_wp2_with fail
    go_roundw
    case rel => exact ⟨j + 1, i2 + 1, 0, 0, (nextL true t).1.pass, arr2, cap2, l ++ [(⟨(itemL t).2.agg, (itemL t).2.col, p2⟩ : Itm)], acc ++ [(nextL true t).2], rfl, by rw [List.length_append, HL.out]; rfl, by rw [List.length_append, HA.out]; rfl, by omega, by rw [List.map_append, List.map_append, HM.out]; rfl, HRt.out, SP.out, WH.out.keep (Only.of_grown g9) (fun k hk e => by cases e; exact absurd (FF.out _ hk) (by omega)), FF.out, setD5 AH.out, blkR RH.out g9 (by omega), grown_thenX GH.out g9 (fun j e => by cases e; exact Nat.le_refl _)⟩
    case measure => simp [lenV]; omega
set_option linter.unusedSimpArgs false in
set_option maxRecDepth 100000 in
set_option maxHeartbeats 6400000 in
theorem ritems_false (b o n k : Nat) (T : List Tk) (s : RS) (w : World) (h : TkE b o n k T w) (i d c a : Nat) (hs : SR n T s i c a) :
  Calls Try.prog 34 #[.agg #[.slice (some ⟨b, o, none⟩) n k, .int .i64 i, .int .i64 d, .int .i64 c, .int .i64 a], .bool false] w (ItsGo b o n k d T (listF 8 (nextL false) 9 s []) w) := by
 have HH := Lib.hid h
 have A1 := Lib.hid (alc2a w (.cells #[.slice (some ⟨b, o, none⟩) n k, .int .i64 i, .int .i64 d, .int .i64 c, .int .i64 a] 81) (.cells #[.slice none 0 0, .int .i64 0, .int .i64 0, .int .i64 0, .int .i64 0] 81))
 have R1 := Lib.hid (alc2b w (.cells #[.slice (some ⟨b, o, none⟩) n k, .int .i64 i, .int .i64 d, .int .i64 c, .int .i64 a] 81) (.cells #[.slice none 0 0, .int .i64 0, .int .i64 0, .int .i64 0, .int .i64 0] 81))
 have G1 := Lib.hid (gq_al (gq_al (grown_reflT w none) (.cells #[.slice (some ⟨b, o, none⟩) n k, .int .i64 i, .int .i64 d, .int .i64 c, .int .i64 a] 81)) (.cells #[.slice none 0 0, .int .i64 0, .int .i64 0, .int .i64 0, .int .i64 0] 81))
 have S1 := Lib.hid hs
 obtain ⟨r, hr⟩ : ∃ r, r = listF 8 (nextL false) 9 s [] := ⟨_, rfl⟩
 rw [← hr]
 have HR0 := Lib.hid hr.symm
 clear h hs hr
 go_enter Try.func34, Try.ntmps34
 go_wp2_with fail
 go_loopw [6] (fun s6 wr => ItsIn b o n k d T false r w s6 wr) (fun s6 _ => 9 - lenV s6)
 case atStart => exact ⟨0, i, c, a, s, none, 0, [], [], rfl, rfl, rfl, by omega, rfl, HR0.out, S1.out, Win.nil 3 _, fun k hk => by simp [bk] at hk, A1.out, R1.out, G1.out⟩
 case round =>
  obtain ⟨j, i1, d1, a1, t, arr, cap, l, acc, rfl, hl, ha, hj, hm, hr, hS, hW, hf, hA, hR, hG⟩ := hrel
  have HL := Lib.hid hl
  have HA := Lib.hid ha
  have HM := Lib.hid hm
  have HRr := Lib.hid hr
  have FA := Lib.hid hf
  have S0 := Lib.hid hS
  clear hl ha hm hr hf hS
  by_cases h8 : j = 8
  ·have g8 : (8 : Int) ≤ j := by omega
   have HF := Lib.hid (fun W (hW : w.grownBy W none) => rfail_any b o n k T t W (HH.out.keep hW) i1 d d1 a1 3 S0.out (by decide))
   have HRes : Hid (r = (t.wrong 3, acc)) := Lib.hid (by rw [← HRr.out, h8]; exact listF_fullD (by rw [HA.out, h8]))
   have AZ := Lib.hid hA
   have RZ := Lib.hid hR
   have GZ := Lib.hid hG
   have WZ := Lib.hid hW
   clear hA hR hG hW h8
   obtain ⟨⟨c0, c1, c2, c3, c4⟩, f0, f1, f2, f3, f4⟩ := boxD5 AZ.out
   go_wp2_with fail
   refine (HF.out _ GZ.out).mono ?_
   rintro e wy ⟨⟨c3', a3, rfl, hSA⟩, hg⟩
   have SA := Lib.hid hSA
   have hca : c3' ≠ 0 := fun e => by
    have := hSA.err0.2 e
    cases this
   have AY := Lib.hid (blkD hg AZ.out)
   have RY := Lib.hid (blkD hg RZ.out)
   have GY := Lib.hid (GZ.out.trans hg)
   have WY := Lib.hid (WZ.out.keepG hg)
   clear c0 c1 c2 c3 c4 f0 f1 f2 f3 f4
   clear hg hSA AZ RZ WZ HF
   obtain ⟨⟨c0, c1, c2, c3, c4⟩, f0, f1, f2, f3, f4⟩ := boxD5 AY.out
   have g6 := grownD5 wy w.heap.size (.slice (some ⟨b, o, none⟩) n k) (.int .i64 i1) (.int .i64 d) (.int .i64 c3') (.int .i64 a3)
   go_upto_region 4 with fail
   have AA := Lib.hid (setD5 (u0 := .slice (some ⟨b, o, none⟩) n k) (u1 := .int .i64 i1) (u2 := .int .i64 d) (u3 := .int .i64 c3') (u4 := .int .i64 a3) AY.out)
   have RA := Lib.hid (blkR RY.out g6 (by omega))
   have GA := Lib.hid (grown_thenX GY.out g6 (fun j e => by cases e; exact Nat.le_refl _))
   have WA := Lib.hid (WY.out.keep (Only.of_grown g6) (fun k hk e => by cases e; exact absurd (FA.out _ hk) (by omega)))
   clear c0 c1 c2 c3 c4 f0 f1 f2 f3 f4
   clear AY RY WY g6
   generalize ((((wy.setCell ⟨w.heap.size, 0, none⟩ (.slice (some ⟨b, o, none⟩) n k)).setCell ⟨w.heap.size, 1, none⟩ (.int .i64 i1)).setCell ⟨w.heap.size, 2, none⟩ (.int .i64 d)).setCell ⟨w.heap.size, 3, none⟩ (.int .i64 c3')).setCell ⟨w.heap.size, 4, none⟩ (.int .i64 a3) = wa at *
   have HNw := Lib.hid (fun W (hW : w.grownBy W none) => rnow_any b o n k T W (HH.out.keep hW) i1 d c3' a3 SA.out.lt)
   have HIt := Lib.hid (fun W (hW : w.grownBy W none) => rname_any b o n k T (t.wrong 3) W (HH.out.keep hW) i1 d c3' a3 SA.out)
   generalize (tkA T i1) = tk at *
   obtain ⟨kd, tx, ps⟩ := tk
   simp only at *
   obtain ⟨⟨c0, c1, c2, c3, c4⟩, f0, f1, f2, f3, f4⟩ := boxD5 AA.out
   go_wp2_with fail
   refine (HNw.out _ GA.out).mono ?_
   rintro e wb ⟨rfl, hg⟩
   have AB := Lib.hid (blkD hg AA.out)
   have RB := Lib.hid (blkD hg RA.out)
   have GB := Lib.hid (GA.out.trans hg)
   have WB := Lib.hid (WA.out.keepG hg)
   clear c0 c1 c2 c3 c4 f0 f1 f2 f3 f4
   have t1 := fieldD2 (.int .i64 kd) (.string tx) (.int .i64 ps) wb
   clear hg HNw AA RA WA
   obtain ⟨⟨c0, c1, c2, c3, c4⟩, f0, f1, f2, f3, f4⟩ := boxD5 AB.out
   go_upto_region 7 with fail
   obtain ⟨wc, hwc⟩ : ∃ wc, wc = wb.alloc (.cells #[.int .i64 0, .string ⟨#[]⟩, .int .i64 ps] 106) := ⟨_, rfl⟩
   have gz : wb.grownBy wc none := by rw [hwc]; exact World.grownBy_alloc wb _ none
   have XC : Hid (wc.heap[wb.heap.size]? = some (.cells #[.int .i64 0, .string ⟨#[]⟩, .int .i64 ps] 106 (0, 0))) := Lib.hid (by rw [hwc]; exact alc1 wb _)
   rw [← hwc]
   have AC := Lib.hid (blkD gz AB.out)
   have RC := Lib.hid (blkD gz RB.out)
   have GC := Lib.hid (GB.out.trans gz)
   have WC := Lib.hid (WB.out.keepG gz)
   have hxb := Lib.hid (fun k hk => Nat.ne_of_lt (WB.out.lt k hk))
   have hRb : w.heap.size + 1 < wb.heap.size := (Array.getElem?_eq_some_iff.1 RB.out).1
   clear c0 c1 c2 c3 c4 f0 f1 f2 f3 f4
   clear gz hwc AB RB WB t1
   obtain ⟨⟨c0, c1, c2, c3, c4⟩, f0, f1, f2, f3, f4⟩ := boxD5 AC.out
   go_wp2_with fail
   refine (HIt.out _ GC.out).mono ?_
   rintro e wd ⟨⟨i2, c2', a2, rfl, hS2⟩, hg⟩
   have S2 : Hid (SR n T (nextL false (t.wrong 3)).1 i2 c2' a2) := Lib.hid hS2
   have AD := Lib.hid (blkD hg AC.out)
   have RD := Lib.hid (blkD hg RC.out)
   have XD := Lib.hid (blkD hg XC.out)
   have GD := Lib.hid (GC.out.trans hg)
   have WD := Lib.hid (WC.out.keepG hg)
   clear c0 c1 c2 c3 c4 f0 f1 f2 f3 f4
   clear hg hS2 HIt AC RC XC WC
   obtain ⟨⟨c0, c1, c2, c3, c4⟩, f0, f1, f2, f3, f4⟩ := boxD5 AD.out
   have g6 := grownD5 wd w.heap.size (.slice (some ⟨b, o, none⟩) n k) (.int .i64 i2) (.int .i64 d) (.int .i64 c2') (.int .i64 a2)
   obtain ⟨⟨v0, v1, v2⟩, e0, e1, e2⟩ := boxD3 (blkR XD.out g6 (by omega))
   go_upto_region 8 with fail
   obtain ⟨we, hwe⟩ : ∃ we, we = (((((wd.setCell ⟨w.heap.size, 0, none⟩ (.slice (some ⟨b, o, none⟩) n k)).setCell ⟨w.heap.size, 1, none⟩ (.int .i64 i2)).setCell ⟨w.heap.size, 2, none⟩ (.int .i64 d)).setCell ⟨w.heap.size, 3, none⟩ (.int .i64 c2')).setCell ⟨w.heap.size, 4, none⟩ (.int .i64 a2)).setCell ⟨wb.heap.size, 1, none⟩ (.string ((t.wrong 3)).name.2) := ⟨_, rfl⟩
   have gx : (((((wd.setCell ⟨w.heap.size, 0, none⟩ (.slice (some ⟨b, o, none⟩) n k)).setCell ⟨w.heap.size, 1, none⟩ (.int .i64 i2)).setCell ⟨w.heap.size, 2, none⟩ (.int .i64 d)).setCell ⟨w.heap.size, 3, none⟩ (.int .i64 c2')).setCell ⟨w.heap.size, 4, none⟩ (.int .i64 a2)).grownBy we (some wb.heap.size) := by rw [hwe]; exact gq_cellR _ _ _ _
   have AE := Lib.hid (blkR (setD5 AD.out) gx (by omega))
   have XE : Hid (we.heap[wb.heap.size]? = some (.cells #[.int .i64 ((0 : Nat) : Int), .string ((t.wrong 3)).name.2, .int .i64 ps] 106 (0, 0))) := Lib.hid (by rw [hwe]; have := heap_setCell_same _ _ 1 _ _ (.string ((t.wrong 3)).name.2) (blkR XD.out g6 (by omega)); simpa using this)
   have RE := Lib.hid (blkR (blkR RD.out g6 (by omega)) gx (by omega))
   have GE := Lib.hid (grown_thenX (grown_thenX GD.out g6 (fun j e => by cases e; exact Nat.le_refl _)) gx (fun j e => by cases e; omega))
   have WE := Lib.hid ((WD.out.keep (Only.of_grown g6) (fun k hk e => by cases e; exact absurd (FA.out _ hk) (by omega))).keep (Only.of_grown gx) (fun k hk e => by cases e; exact absurd rfl (hxb.out _ hk)))
   rw [← hwe]
   clear c0 c1 c2 c3 c4 f0 f1 f2 f3 f4
   clear hwe gx g6 AD RD XD WD v0 v1 v2 e0 e1 e2 hxb
   have hAe : w.heap.size < we.heap.size := (Array.getElem?_eq_some_iff.1 AE.out).1
   have hRe : w.heap.size + 1 < we.heap.size := (Array.getElem?_eq_some_iff.1 RE.out).1
   obtain ⟨⟨v0, v1, v2⟩, e0, e1, e2⟩ := boxD3 XE.out
   go_wp2_with (refine wpList_append_winA rfl (.tmp 29) (.tmp 31) itm_el (by rfl) (WE.out.keepG (World.grownBy_alloc we (.cells #[.int .i64 ((0 : Nat) : Int), .string ((t.wrong 3)).name.2, .int .i64 ps] 106) none)) (by rfl) (some ⟨we.heap.size, 0, none⟩) 1 1 (by rfl) [.int .i64 ((0 : Nat) : Int), .string ((t.wrong 3)).name.2, .int .i64 ps] (fun e => by cases e) rfl (by omega) (fun ad e j u hj => by cases e; rw [add_atT]; rw [cell_of_row _ _ (0 + j) _ _ _ (alc1 we _)]; simpa using hj) (by simp [Value.oneCell']) ?_)
   intro arr2 cap2 wf z2 o2 b2 _
   have ga := World.grownBy_alloc we (.cells #[.int .i64 ((0 : Nat) : Int), .string ((t.wrong 3)).name.2, .int .i64 ps] 106) none
   have GF := Lib.hid (grown_onlyN (GE.out.trans ga) o2 (fun k hk => Nat.le_of_lt (Nat.lt_of_succ_lt (FA.out k hk))))
   have AF := Lib.hid ((o2.block _ (Nat.lt_of_lt_of_le hAe ga.size) (fun hk => absurd (FA.out _ hk) (by omega))).trans (blkD ga AE.out))
   have RF := Lib.hid ((o2.block _ (Nat.lt_of_lt_of_le hRe ga.size) (fun hk => absurd (FA.out _ hk) (by omega))).trans (blkD ga RE.out))
   have FF : Hid (∀ k, bk arr2 k → w.heap.size + 1 < k) := Lib.hid (fun k hk => (b2 k hk).elim (FA.out k) (fun e => by first | omega | (simp at e; omega)))
   have WF : Hid (Win 3 wf arr2 cap2 (j + 1) ((l ++ [(⟨0, ((t.wrong 3)).name.2, ps⟩ : Itm)]).flatMap Itm.c)) := Lib.hid (by
    rw [List.flatMap_append]
    exact z2)
   have HI := Lib.hid (fun W (hW : w.grownBy W none) => ris_any b o n k T (nextL false (t.wrong 3)).1 W (HH.out.keep hW) i2 d c2' a2 bComma S2.out (.inr (by decide +kernel)))
   clear z2 o2 b2 ga AE RE XE WE v0 v1 v2 e0 e1 e2
   obtain ⟨⟨c0, c1, c2, c3, c4⟩, f0, f1, f2, f3, f4⟩ := boxD5 AF.out
   go_wp2_with fail
   refine (HI.out _ GF.out).mono ?_
   rintro e wg ⟨rfl, hg⟩
   have AG := Lib.hid (blkD hg AF.out)
   have RG := Lib.hid (blkD hg RF.out)
   have GG := Lib.hid (GF.out.trans hg)
   have WG := Lib.hid (WF.out.keepG hg)
   clear c0 c1 c2 c3 c4 f0 f1 f2 f3 f4
   clear hg AF RF WF HI
   have hcm := S2.out.bad_comes (SA.out.ninth false hca S2.out).1 (t := bComma) (.inr (by decide +kernel))
   rw [hcm]
   clear hcm
   obtain ⟨⟨c0, c1, c2, c3, c4⟩, f0, f1, f2, f3, f4⟩ := boxD5 AG.out
   obtain ⟨⟨r0, r1, r2, r3, r4⟩, q0, q1, q2, q3, q4⟩ := boxD5 RG.out
   go_wp2_with fail
   have g9 := grownD5 wg (w.heap.size + 1) (.slice (some ⟨b, o, none⟩) n k) (.int .i64 i2) (.int .i64 d) (.int .i64 c2') (.int .i64 a2)
   refine bodyPost_ret (res_ct rfl _ _ (w.heap.size + 1) _ rfl (setD5 RG.out) rfl) rfl ⟨i2, c2', a2, arr2, cap2, l ++ [(⟨0, ((t.wrong 3)).name.2, ps⟩ : Itm)], ?_, ?_, fun k hk => Nat.le_of_lt (Nat.lt_of_succ_lt (FF.out k hk)), ?_, ?_, grown_thenX GG.out g9 (fun j e => by cases e; exact Nat.le_succ _)⟩
   ·rw [List.length_append, HL.out]; rfl
   ·have := WG.out.keep (Only.of_grown g9) (fun k hk e => by cases e; exact absurd (FF.out _ hk) (by omega))
    rw [List.length_append, HL.out]
    exact this
   ·rw [HRes.out]
    exact (SA.out.ninth false hca S2.out).2
   ·intro h0
    exact absurd h0 (SA.out.ninth false hca S2.out).1
  ·have g8 : ¬ (8 : Int) ≤ j := by omega
   have SA := S0
   have HRes := HRr
   have AA := Lib.hid hA
   have RA := Lib.hid hR
   have GA := Lib.hid hG
   have WA := Lib.hid hW
   clear hA hR hG hW
   have HNw := Lib.hid (fun W (hW : w.grownBy W none) => rnow_any b o n k T W (HH.out.keep hW) i1 d d1 a1 SA.out.lt)
   have HIt := Lib.hid (fun W (hW : w.grownBy W none) => rname_any b o n k T t W (HH.out.keep hW) i1 d d1 a1 SA.out)
   generalize (tkA T i1) = tk at *
   obtain ⟨kd, tx, ps⟩ := tk
   simp only at *
   obtain ⟨⟨c0, c1, c2, c3, c4⟩, f0, f1, f2, f3, f4⟩ := boxD5 AA.out
   go_wp2_with fail
   refine (HNw.out _ GA.out).mono ?_
   rintro e wb ⟨rfl, hg⟩
   have AB := Lib.hid (blkD hg AA.out)
   have RB := Lib.hid (blkD hg RA.out)
   have GB := Lib.hid (GA.out.trans hg)
   have WB := Lib.hid (WA.out.keepG hg)
   clear c0 c1 c2 c3 c4 f0 f1 f2 f3 f4
   have t1 := fieldD2 (.int .i64 kd) (.string tx) (.int .i64 ps) wb
   clear hg HNw AA RA WA
   obtain ⟨⟨c0, c1, c2, c3, c4⟩, f0, f1, f2, f3, f4⟩ := boxD5 AB.out
   go_upto_region 7 with fail
   obtain ⟨wc, hwc⟩ : ∃ wc, wc = wb.alloc (.cells #[.int .i64 0, .string ⟨#[]⟩, .int .i64 ps] 106) := ⟨_, rfl⟩
   have gz : wb.grownBy wc none := by rw [hwc]; exact World.grownBy_alloc wb _ none
   have XC : Hid (wc.heap[wb.heap.size]? = some (.cells #[.int .i64 0, .string ⟨#[]⟩, .int .i64 ps] 106 (0, 0))) := Lib.hid (by rw [hwc]; exact alc1 wb _)
   rw [← hwc]
   have AC := Lib.hid (blkD gz AB.out)
   have RC := Lib.hid (blkD gz RB.out)
   have GC := Lib.hid (GB.out.trans gz)
   have WC := Lib.hid (WB.out.keepG gz)
   have hxb := Lib.hid (fun k hk => Nat.ne_of_lt (WB.out.lt k hk))
   have hRb : w.heap.size + 1 < wb.heap.size := (Array.getElem?_eq_some_iff.1 RB.out).1
   clear c0 c1 c2 c3 c4 f0 f1 f2 f3 f4
   clear gz hwc AB RB WB t1
   obtain ⟨⟨c0, c1, c2, c3, c4⟩, f0, f1, f2, f3, f4⟩ := boxD5 AC.out
   go_wp2_with fail
   refine (HIt.out _ GC.out).mono ?_
   rintro e wd ⟨⟨i2, c2', a2, rfl, hS2⟩, hg⟩
   have S2 : Hid (SR n T (nextL false t).1 i2 c2' a2) := Lib.hid hS2
   have AD := Lib.hid (blkD hg AC.out)
   have RD := Lib.hid (blkD hg RC.out)
   have XD := Lib.hid (blkD hg XC.out)
   have GD := Lib.hid (GC.out.trans hg)
   have WD := Lib.hid (WC.out.keepG hg)
   clear c0 c1 c2 c3 c4 f0 f1 f2 f3 f4
   clear hg hS2 HIt AC RC XC WC
   obtain ⟨⟨c0, c1, c2, c3, c4⟩, f0, f1, f2, f3, f4⟩ := boxD5 AD.out
   have g6 := grownD5 wd w.heap.size (.slice (some ⟨b, o, none⟩) n k) (.int .i64 i2) (.int .i64 d) (.int .i64 c2') (.int .i64 a2)
   obtain ⟨⟨v0, v1, v2⟩, e0, e1, e2⟩ := boxD3 (blkR XD.out g6 (by omega))
   go_upto_region 8 with fail
   obtain ⟨we, hwe⟩ : ∃ we, we = (((((wd.setCell ⟨w.heap.size, 0, none⟩ (.slice (some ⟨b, o, none⟩) n k)).setCell ⟨w.heap.size, 1, none⟩ (.int .i64 i2)).setCell ⟨w.heap.size, 2, none⟩ (.int .i64 d)).setCell ⟨w.heap.size, 3, none⟩ (.int .i64 c2')).setCell ⟨w.heap.size, 4, none⟩ (.int .i64 a2)).setCell ⟨wb.heap.size, 1, none⟩ (.string (t).name.2) := ⟨_, rfl⟩
   have gx : (((((wd.setCell ⟨w.heap.size, 0, none⟩ (.slice (some ⟨b, o, none⟩) n k)).setCell ⟨w.heap.size, 1, none⟩ (.int .i64 i2)).setCell ⟨w.heap.size, 2, none⟩ (.int .i64 d)).setCell ⟨w.heap.size, 3, none⟩ (.int .i64 c2')).setCell ⟨w.heap.size, 4, none⟩ (.int .i64 a2)).grownBy we (some wb.heap.size) := by rw [hwe]; exact gq_cellR _ _ _ _
   have AE := Lib.hid (blkR (setD5 AD.out) gx (by omega))
   have XE : Hid (we.heap[wb.heap.size]? = some (.cells #[.int .i64 ((0 : Nat) : Int), .string (t).name.2, .int .i64 ps] 106 (0, 0))) := Lib.hid (by rw [hwe]; have := heap_setCell_same _ _ 1 _ _ (.string (t).name.2) (blkR XD.out g6 (by omega)); simpa using this)
   have RE := Lib.hid (blkR (blkR RD.out g6 (by omega)) gx (by omega))
   have GE := Lib.hid (grown_thenX (grown_thenX GD.out g6 (fun j e => by cases e; exact Nat.le_refl _)) gx (fun j e => by cases e; omega))
   have WE := Lib.hid ((WD.out.keep (Only.of_grown g6) (fun k hk e => by cases e; exact absurd (FA.out _ hk) (by omega))).keep (Only.of_grown gx) (fun k hk e => by cases e; exact absurd rfl (hxb.out _ hk)))
   rw [← hwe]
   clear c0 c1 c2 c3 c4 f0 f1 f2 f3 f4
   clear hwe gx g6 AD RD XD WD v0 v1 v2 e0 e1 e2 hxb
   have hAe : w.heap.size < we.heap.size := (Array.getElem?_eq_some_iff.1 AE.out).1
   have hRe : w.heap.size + 1 < we.heap.size := (Array.getElem?_eq_some_iff.1 RE.out).1
   obtain ⟨⟨v0, v1, v2⟩, e0, e1, e2⟩ := boxD3 XE.out
   go_wp2_with (refine wpList_append_winA rfl (.tmp 29) (.tmp 31) itm_el (by rfl) (WE.out.keepG (World.grownBy_alloc we (.cells #[.int .i64 ((0 : Nat) : Int), .string (t).name.2, .int .i64 ps] 106) none)) (by rfl) (some ⟨we.heap.size, 0, none⟩) 1 1 (by rfl) [.int .i64 ((0 : Nat) : Int), .string (t).name.2, .int .i64 ps] (fun e => by cases e) rfl (by omega) (fun ad e j u hj => by cases e; rw [add_atT]; rw [cell_of_row _ _ (0 + j) _ _ _ (alc1 we _)]; simpa using hj) (by simp [Value.oneCell']) ?_)
   intro arr2 cap2 wf z2 o2 b2 _
   have ga := World.grownBy_alloc we (.cells #[.int .i64 ((0 : Nat) : Int), .string (t).name.2, .int .i64 ps] 106) none
   have GF := Lib.hid (grown_onlyN (GE.out.trans ga) o2 (fun k hk => Nat.le_of_lt (Nat.lt_of_succ_lt (FA.out k hk))))
   have AF := Lib.hid ((o2.block _ (Nat.lt_of_lt_of_le hAe ga.size) (fun hk => absurd (FA.out _ hk) (by omega))).trans (blkD ga AE.out))
   have RF := Lib.hid ((o2.block _ (Nat.lt_of_lt_of_le hRe ga.size) (fun hk => absurd (FA.out _ hk) (by omega))).trans (blkD ga RE.out))
   have FF : Hid (∀ k, bk arr2 k → w.heap.size + 1 < k) := Lib.hid (fun k hk => (b2 k hk).elim (FA.out k) (fun e => by first | omega | (simp at e; omega)))
   have WF : Hid (Win 3 wf arr2 cap2 (j + 1) ((l ++ [(⟨0, (t).name.2, ps⟩ : Itm)]).flatMap Itm.c)) := Lib.hid (by
    rw [List.flatMap_append]
    exact z2)
   have HI := Lib.hid (fun W (hW : w.grownBy W none) => ris_any b o n k T (nextL false t).1 W (HH.out.keep hW) i2 d c2' a2 bComma S2.out (.inr (by decide +kernel)))
   clear z2 o2 b2 ga AE RE XE WE v0 v1 v2 e0 e1 e2
   obtain ⟨⟨c0, c1, c2, c3, c4⟩, f0, f1, f2, f3, f4⟩ := boxD5 AF.out
   go_wp2_with fail
   refine (HI.out _ GF.out).mono ?_
   rintro e wg ⟨rfl, hg⟩
   have AG := Lib.hid (blkD hg AF.out)
   have RG := Lib.hid (blkD hg RF.out)
   have GG := Lib.hid (GF.out.trans hg)
   have WG := Lib.hid (WF.out.keepG hg)
   clear c0 c1 c2 c3 c4 f0 f1 f2 f3 f4
   clear hg AF RF WF HI
   cases hy : (nextL false t).1.comes bComma with
   | false =>
    have HRf : Hid (r = ((nextL false t).1, acc ++ [(nextL false t).2])) := Lib.hid (by rw [← HRes.out, show 9 - j = (8 - j) + 1 by omega]; exact listF_endD (by rw [HA.out]; omega) hy)
    clear hy
    obtain ⟨⟨c0, c1, c2, c3, c4⟩, f0, f1, f2, f3, f4⟩ := boxD5 AG.out
    obtain ⟨⟨r0, r1, r2, r3, r4⟩, q0, q1, q2, q3, q4⟩ := boxD5 RG.out
    go_wp2_with fail
    have g9 := grownD5 wg (w.heap.size + 1) (.slice (some ⟨b, o, none⟩) n k) (.int .i64 i2) (.int .i64 d) (.int .i64 c2') (.int .i64 a2)
    refine bodyPost_ret (res_ct rfl _ _ (w.heap.size + 1) _ rfl (setD5 RG.out) rfl) rfl ⟨i2, c2', a2, arr2, cap2, l ++ [(⟨0, (t).name.2, ps⟩ : Itm)], ?_, ?_, fun k hk => Nat.le_of_lt (Nat.lt_of_succ_lt (FF.out k hk)), ?_, ?_, grown_thenX GG.out g9 (fun j e => by cases e; exact Nat.le_succ _)⟩
    ·rw [List.length_append, HL.out]; rfl
    ·have := WG.out.keep (Only.of_grown g9) (fun k hk e => by cases e; exact absurd (FF.out _ hk) (by omega))
     rw [List.length_append, HL.out]
     exact this
    ·rw [HRf.out]
     exact S2.out
    ·intro _
     rw [HRf.out, List.map_append, List.map_append, HM.out]
     rfl
   | true =>
    have HRt : Hid (listF 8 (nextL false) (9 - (j + 1)) (nextL false t).1.pass (acc ++ [(nextL false t).2]) = r) := Lib.hid (by rw [← HRes.out, show 9 - j = (9 - (j + 1)) + 1 by omega]; exact (listF_moreD (by rw [HA.out]; omega) hy).symm)
    have HP := Lib.hid (fun W (hW : w.grownBy W none) => rpass_any b o n k T (nextL false t).1 W (HH.out.keep hW) i2 d c2' a2 bComma S2.out (.inr (by decide +kernel)) hy)
    clear hy
    obtain ⟨⟨c0, c1, c2, c3, c4⟩, f0, f1, f2, f3, f4⟩ := boxD5 AG.out
    go_wp2_with fail
    refine (HP.out _ GG.out).mono ?_
    rintro e wh ⟨⟨rfl, hSp⟩, hg⟩
    have SP := Lib.hid hSp
    have AH := Lib.hid (blkD hg AG.out)
    have RH := Lib.hid (blkD hg RG.out)
    have GH := Lib.hid (GG.out.trans hg)
    have WH := Lib.hid (WG.out.keepG hg)
    clear c0 c1 c2 c3 c4 f0 f1 f2 f3 f4
    clear hg hSp AG RG WG HP
    obtain ⟨⟨c0, c1, c2, c3, c4⟩, f0, f1, f2, f3, f4⟩ := boxD5 AH.out
    have g9 := grownD5 wh w.heap.size (.slice (some ⟨b, o, none⟩) n k) (.int .i64 ((i2 : Int) + 1)) (.int .i64 d) (.int .i64 0) (.int .i64 0)
    go_wp2_with fail
    go_roundw
    case rel => exact ⟨j + 1, i2 + 1, 0, 0, (nextL false t).1.pass, arr2, cap2, l ++ [(⟨0, (t).name.2, ps⟩ : Itm)], acc ++ [(nextL false t).2], rfl, by rw [List.length_append, HL.out]; rfl, by rw [List.length_append, HA.out]; rfl, by omega, by rw [List.map_append, List.map_append, HM.out]; rfl, HRt.out, SP.out, WH.out.keep (Only.of_grown g9) (fun k hk e => by cases e; exact absurd (FF.out _ hk) (by omega)), FF.out, setD5 AH.out, blkR RH.out g9 (by omega), grown_thenX GH.out g9 (fun j e => by cases e; exact Nat.le_refl _)⟩
    case measure => simp [lenV]; omega
end Go.Proofs.Ytfambadamebjjaa
