import Derived.Test.YtpklajadfbigcaaGreatDoorZt31
import Derived.Laws.AppendOwnNone
import Derived.Test.YtpklajadfbigcaaGreatDoorZt15
import Derived.Test.YtpklajadfbigcaaGreatDoorZt29
import Derived.Test.YtpklajadfbigcaaGreatDoorZt19
import Derived.Test.YtpklajadfbigcaaGreatDoorZt24
import Derived.Deep.RegionHeld
set_option linter.unusedSimpArgs false
set_option linter.unusedVariables false
namespace Go.Proofs.YtpklajadfbigcaaGreatDoor
open Go.RowKit

theorem Win.at {sz : Nat} {w : World} {a : Option Addr} {cap n : Nat} {xs : List Value} (h : Win sz w a cap n xs) : ∀ ad, a = some ad → ∀ j u, xs[j]? = some u → w.cell? (ad.add j) = some u := by
  intro ad e j u hj
  have h1 := h.len
  have h2 := h.le
  rcases h.mem with hm | ⟨g, off, e2, hc, _⟩
  · rw [List.eq_nil_of_length_eq_zero (l := xs) (by rw [h1, show n = 0 by omega]; simp)] at hj
    simp at hj
  · rw [e2] at e; cases e
    rw [add_atT]
    exact hc j u hj
end Go.Proofs.YtpklajadfbigcaaGreatDoor
namespace Go.Proofs.YtpklajadfbigcaaGreatDoor
open Go.RowKit

def Cl.c (x : Cl) : List Value := [.string x.n, .int .i64 x.k, .bool x.b]
theorem Cl.c_len (x : Cl) : x.c.length = 3 := rfl
def Vl.cc (x : Vl) : List Value := [.int .i64 x.k, .int .i64 x.n, .string x.s]
end Go.Proofs.YtpklajadfbigcaaGreatDoor
namespace Go.Proofs.YtpklajadfbigcaaGreatDoor
open Go.RowKit

theorem run_append_winM {sl e : TypeId} {z : Value} {sz by' : Nat} (E : ElT sl e z sz by') {w : World} {a : Option Addr} {cap n : Nat} {xs : List Value} (h : Win sz w a cap n xs) (hcap : cap ≠ 0)
    (A : Option Addr) (m c : Nat) (news : List Value) (hA : A = none → m = 0) (hnl : news.length = m * sz) (hn : n + m ≤ 1000000) (hnews : ∀ ad, A = some ad → ∀ j u, news[j]? = some u → w.cell? (ad.add j) = some u) (h1 : ∀ u ∈ news, u.oneCell' = true) (ty : TypeId) :
    ∃ a' cap' w', (Builtin.append_ #[sl, sl] ty #[.slice a n cap, .slice A m c]).run Tryz.prog w = .ok (.slice a' (n + m) cap') w' ∧ Win sz w' a' cap' (n + m) (xs ++ news) ∧ Only (bk a) w w' ∧ (∀ k, bk a' k → bk a k ∨ w.heap.size ≤ k) ∧ cap' ≠ 0 := by
  obtain ⟨i0, hi, hz0, hz1, hz2⟩ := E.inf
  have hlen := h.len
  have hpos := E.pos
  have hby := E.few
  have hle := h.le
  have hmx : n + m ≤ maxLen := by unfold maxLen; omega
  have hbb : (n + m) * by' ≤ 140737488355328 := by
    have : (n + m) * by' ≤ 1000000 * 256 := Nat.mul_le_mul hn hby
    omega
  obtain ⟨g, off, rfl, hc, hs, hf⟩ := h.mem.resolve_left hcap
  cases A with
  | none =>
    obtain rfl := hA rfl
    obtain rfl : news = [] := List.eq_nil_of_length_eq_zero (by omega)
    refine ⟨some ⟨g, off, none⟩, cap, w, ?_, by rw [List.append_nil]; exact h, Only.refl _ w, fun k hk => .inl hk, hcap⟩
    simp [Builtin.append_, run_underlying E.und, sizeOf, typeInfo, hi, Builtin.lenOf, Builtin.firstCells, hle, storeCells]
  | some ad =>
    by_cases hroom : n + m ≤ cap
    · have hsz : n * sz + m * sz ≤ cap * sz := by
        have := Nat.mul_le_mul_right sz hroom
        rw [Nat.add_mul] at this; omega
      have hr := run_append_room_cells (P := Tryz.prog) w sl ty e i0 E.und hi g off n cap ad m c news (by rw [hz1, hnl]) (hnews ad rfl) h1 hroom
        (fun j hj => by rw [hz1, Nat.add_assoc]; exact hs _ (by omega)) (fun j hj => hf _)
      rw [hz1] at hr
      refine ⟨_, _, _, hr, h.put (by omega) (by omega) (by rw [List.length_append, hlen, hnl, Nat.add_mul]) hroom (fun j u hj => ?_), (only_setCells g news _ w).mono (fun k _ e => by rw [bk_some]; exact e), fun k hk => .inl hk, hcap⟩
      by_cases hlt : j < n * sz
      · rw [List.getElem?_append_left (by omega)] at hj
        exact .inr ⟨.inl hlt, hj⟩
      · rw [List.getElem?_append_right (by omega), hlen] at hj
        exact .inl ⟨by omega, hj⟩
    · obtain ⟨v', w', hrun, r1, r2⟩ := run_append_arg_grows (P := Tryz.prog) w sl ty e i0 z sz by' E.und hi hz0 hz1 hz2 E.zc hpos ⟨g, off, none⟩ n cap xs hlen (fun j u hj => by rw [add_atT]; exact hc j u hj) ad m c news hnl (hnews ad rfl) (by omega) hmx hbb
      obtain ⟨a', cap', rfl, hw, hb⟩ := own_win r1
      exact ⟨a', cap', w', hrun, hw, .of_none r2, fun k hk => .inr (World.ownsRow.lt r1 k (hb k hk)).1, by have := hw.le; omega⟩
end Go.Proofs.YtpklajadfbigcaaGreatDoor
namespace Go.Proofs.YtpklajadfbigcaaGreatDoor
open Go.RowKit
def PlA (a : Option Addr) : Prop := a = none ∨ ∃ g off, a = some ⟨g, off, none⟩
theorem win_plA {sz : Nat} {w : World} {a : Option Addr} {cap n : Nat} {xs : List Value} (h : Win sz w a cap n xs) (hc : cap ≠ 0) : PlA a := by
  obtain ⟨g, off, e, _⟩ := h.mem.resolve_left hc
  exact .inr ⟨g, off, e⟩
theorem run_append_winA {sl e : TypeId} {z : Value} {sz by' : Nat} (E : ElT sl e z sz by') {w : World} {a : Option Addr} {cap n : Nat} {xs : List Value} (h : Win sz w a cap n xs)
    (A : Option Addr) (m c : Nat) (news : List Value) (hA : A = none → m = 0) (hnl : news.length = m * sz) (hn : n + m ≤ 1000000) (hnews : ∀ ad, A = some ad → ∀ j u, news[j]? = some u → w.cell? (ad.add j) = some u) (h1 : ∀ u ∈ news, u.oneCell' = true) (ty : TypeId) :
    ∃ a' cap' w', (Builtin.append_ #[sl, sl] ty #[.slice a n cap, .slice A m c]).run Tryz.prog w = .ok (.slice a' (n + m) cap') w' ∧ Win sz w' a' cap' (n + m) (xs ++ news) ∧ Only (bk a) w w' ∧ (∀ k, bk a' k → bk a k ∨ w.heap.size ≤ k) ∧ (PlA a → PlA a') := by
  by_cases hcap : cap = 0
  · subst hcap
    obtain ⟨i0, hi, hz0, hz1, hz2⟩ := E.inf
    have hlen := h.len
    have hpos := E.pos
    have hby := E.few
    have hle := h.le
    obtain rfl : n = 0 := by omega
    have hxs : xs = [] := List.eq_nil_of_length_eq_zero (by omega)
    subst hxs
    have hmx : 0 + m ≤ maxLen := by unfold maxLen; omega
    have hbb : (0 + m) * by' ≤ 140737488355328 := by
      have : (0 + m) * by' ≤ 1000000 * 256 := Nat.mul_le_mul hn hby
      omega
    have fin : ∀ v' w', (Builtin.append_ #[sl, sl] ty #[.slice a 0 0, .slice A m c]).run Tryz.prog w = .ok v' w' → w'.ownsRow w.heap.size e sz v' (0 + m) ([] ++ news) → w.grownBy w' none → ∃ a' cap' w', (Builtin.append_ #[sl, sl] ty #[.slice a 0 0, .slice A m c]).run Tryz.prog w = .ok (.slice a' (0 + m) cap') w' ∧ Win sz w' a' cap' (0 + m) ([] ++ news) ∧ Only (bk a) w w' ∧ (∀ k, bk a' k → bk a k ∨ w.heap.size ≤ k) ∧ (PlA a → PlA a') := by
      intro v' w' hr ho hg
      obtain ⟨a', cap', rfl, hw, hb⟩ := own_win ho
      refine ⟨a', cap', w', hr, hw, .of_none hg, fun k hk => .inr (World.ownsRow.lt ho k (hb k hk)).1, fun _ => ?_⟩
      rcases ho.2 with ⟨e, _⟩ | ⟨g, cap, cur, e, _⟩
      · simp only [Value.slice.injEq] at e; exact .inl e.1
      · simp only [Value.slice.injEq] at e; exact .inr ⟨_, _, e.1⟩
    cases A with
    | none =>
      obtain rfl := hA rfl
      obtain rfl : news = [] := List.eq_nil_of_length_eq_zero (by omega)
      refine ⟨a, 0, w, ?_, by simpa using h, Only.refl _ w, fun k hk => .inl hk, id⟩
      cases a <;> simp [Builtin.append_, run_underlying E.und, sizeOf, typeInfo, hi, Builtin.lenOf, Builtin.firstCells, storeCells]
    | some ad =>
      cases a with
      | none =>
        obtain ⟨v', w', hrun, r1, r2, _⟩ := run_append_own (P := Tryz.prog) w w.heap.size sl ty e i0 z sz by' E.und hi hz0 hz1 hz2 E.zc hpos (.slice none 0 0) 0 [] (World.ownsRow_nil w _ _ sz) ad m c news hnl (hnews ad rfl) h1 hmx hbb (Nat.le_refl _)
        exact fin v' w' hrun r1 ⟨r2.os, r2.tape, r2.output, r2.size, fun k hk _ => r2.block k hk (by simp [Value.ownBlock])⟩
      | some a' =>
        by_cases hm : m = 0
        · subst hm
          obtain rfl : news = [] := List.eq_nil_of_length_eq_zero (by omega)
          refine ⟨some a', 0, w, ?_, by simpa using h, Only.refl _ w, fun k hk => .inl hk, id⟩
          have hf := run_firstCells_some (P := Tryz.prog) w i0.size 0 ad 0 c [] (by simp) (by simp)
          simp [Builtin.append_, run_underlying E.und, sizeOf, typeInfo, hi, Builtin.lenOf, hf, storeCells]
        · obtain ⟨v', w', hrun, r1, r2⟩ := run_append_arg_grows (P := Tryz.prog) w sl ty e i0 z sz by' E.und hi hz0 hz1 hz2 E.zc hpos a' 0 0 [] (by simp) (by intro _ _ h'; simp at h') ad m c news hnl (hnews ad rfl) (by omega) hmx hbb
          exact fin v' w' hrun r1 r2
  · obtain ⟨a', cap', w', h2, h3, h4, h5, h6⟩ := run_append_winM E h hcap A m c news hA hnl hn hnews h1 ty
    exact ⟨a', cap', w', h2, h3, h4, h5, fun _ => win_plA h3 h6⟩
theorem wp_append_winA {o : Oper} {act : Act} {K : Act → World → Prop} {Q : Exit → Act → World → Prop} {w : World} (s x : Operand) {sl e : TypeId} {z : Value} {sz by' : Nat} (E : ElT sl e z sz by')
    (ho : o.op = .call { callee := .builtin .append, args := #[s, x], argTypes := #[sl, sl] })
    {a : Option Addr} {cap n : Nat} {xs : List Value} (h : Win sz w a cap n xs)
    (hs : act.eval s = .slice a n cap) (A : Option Addr) (m c : Nat) (hx : act.eval x = .slice A m c) (news : List Value) (hA : A = none → m = 0) (hnl : news.length = m * sz) (hn : n + m ≤ 1000000) (hnews : ∀ ad, A = some ad → ∀ j u, news[j]? = some u → w.cell? (ad.add j) = some u) (h1 : ∀ u ∈ news, u.oneCell' = true)
    (hk : ∀ a' cap' w', Win sz w' a' cap' (n + m) (xs ++ news) → Only (bk a) w w' → (∀ k, bk a' k → bk a k ∨ w.heap.size ≤ k) → (PlA a → PlA a') → K (act.put o.dst (.slice a' (n + m) cap')) w') :
    Oper.wp Tryz.prog o act w K Q := by
  obtain ⟨a', cap', w', hr, h2, h3, h4, h5⟩ := run_append_winA E h A m c news hA hnl hn hnews h1 o.type
  unfold Oper.wp execOp
  simp only [ho, resolve, invoke, builtin, Sem.run_bind, Sem.run_pure, Result.andThen_ok, List.map_toArray, List.map_cons, List.map_nil, hs, hx, hr]
  exact hk a' cap' w' h2 h3 h4 h5
theorem wpList_append_winA {ops : Array Oper} {rest : List Oper} {o : Oper} {act : Act} {Q : Exit → Act → World → Prop} {w : World} (hgd : o.guard = none) (s x : Operand) {sl e : TypeId} {z : Value} {sz by' : Nat} (E : ElT sl e z sz by')
    (ho : o.op = .call { callee := .builtin .append, args := #[s, x], argTypes := #[sl, sl] })
    {a : Option Addr} {cap n : Nat} {xs : List Value} (h : Win sz w a cap n xs)
    (hs : act.eval s = .slice a n cap) (A : Option Addr) (m c : Nat) (hx : act.eval x = .slice A m c) (news : List Value) (hA : A = none → m = 0) (hnl : news.length = m * sz) (hn : n + m ≤ 1000000) (hnews : ∀ ad, A = some ad → ∀ j u, news[j]? = some u → w.cell? (ad.add j) = some u) (h1 : ∀ u ∈ news, u.oneCell' = true)
    (hk : ∀ a' cap' w', Win sz w' a' cap' (n + m) (xs ++ news) → Only (bk a) w w' → (∀ k, bk a' k → bk a k ∨ w.heap.size ≤ k) → (PlA a → PlA a') → wpList Tryz.prog ops Q rest (act.put o.dst (.slice a' (n + m) cap')) w') :
    wpList Tryz.prog ops Q (o :: rest) act w := by
  refine wpList_plain hgd fun K hK' => ?_
  exact wp_append_winA s x E ho h hs A m c hx news hA hnl hn hnews h1 fun a' cap' w' h2 h3 h4 h5 => hK' _ _ (hk a' cap' w' h2 h3 h4 h5)
end Go.Proofs.YtpklajadfbigcaaGreatDoor
namespace Go.Proofs.YtpklajadfbigcaaGreatDoor
open Go.RowKit

end Go.Proofs.YtpklajadfbigcaaGreatDoor
