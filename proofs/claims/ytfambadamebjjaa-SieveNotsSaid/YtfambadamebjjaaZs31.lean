import Derived.Test.YtfambadamebjjaaZs30
set_option linter.unusedSimpArgs false
set_option linter.unusedVariables false
namespace Go.Proofs.Ytfambadamebjjaa
open Go.RowKit

theorem ten_f {w : World} {g : Nat} {cs : Array Value} {T : TypeId} (h : w.heap[g]? = some (.cells cs T (0, 0))) : (w.frozen? ⟨g, 0, none⟩ = false ∧ w.frozen? ⟨g, 1, none⟩ = false ∧ w.frozen? ⟨g, 2, none⟩ = false ∧ w.frozen? ⟨g, 3, none⟩ = false ∧ w.frozen? ⟨g, 4, none⟩ = false) ∧ w.frozen? ⟨g, 5, none⟩ = false ∧ w.frozen? ⟨g, 6, none⟩ = false ∧ w.frozen? ⟨g, 7, none⟩ = false ∧ w.frozen? ⟨g, 8, none⟩ = false ∧ w.frozen? ⟨g, 9, none⟩ = false :=
 ⟨⟨frozen_of_row _ _ 0 _ _ h, frozen_of_row _ _ 1 _ _ h, frozen_of_row _ _ 2 _ _ h, frozen_of_row _ _ 3 _ _ h, frozen_of_row _ _ 4 _ _ h⟩, frozen_of_row _ _ 5 _ _ h, frozen_of_row _ _ 6 _ _ h, frozen_of_row _ _ 7 _ _ h, frozen_of_row _ _ 8 _ _ h, frozen_of_row _ _ 9 _ _ h⟩
theorem turn_nat (r : Nat) (h1 : 1 ≤ r) (h2 : r ≤ 6) : turnT (r : Int) = ((turnR r : Nat) : Int) ∧ relE (r : Int) = 0 := by
 have hk : r = 1 ∨ r = 2 ∨ r = 3 ∨ r = 4 ∨ r = 5 ∨ r = 6 := by omega
 rcases hk with rfl | rfl | rfl | rfl | rfl | rfl <;> exact ⟨by decide, by decide⟩
end Go.Proofs.Ytfambadamebjjaa
namespace Go.Proofs.Ytfambadamebjjaa
open Go.RowKit

theorem rw_one {S : Nat → Prop} {w : World} {g : Nat} {uk un : Int} {us : ByteArray} {T : TypeId} (h : w.heap[g]? = some (.cells #[.int .i64 uk, .int .i64 un, .string us] T (0, 0))) (hS : S g) (hs : us.size ≤ maxLen) : RwS S w (some ⟨g, 0, Option.none⟩) [⟨uk, un, us⟩] := by
 obtain ⟨⟨x0, x1, x2⟩, _, _, _⟩ := three_of h
 refine ⟨by simp, by simpa using hs, .inr ⟨g, 0, rfl, hS, (Array.getElem?_eq_some_iff.1 h).1, fun i hi => ?_⟩⟩
 obtain rfl : i = 0 := by simpa using hi
 exact ⟨x0, x1, x2⟩
end Go.Proofs.Ytfambadamebjjaa
namespace Go.Proofs.Ytfambadamebjjaa
open Go.RowKit

theorem PmSs.mono' {S S' : Nat → Prop} {w : World} {l : List Pm} (h : PmSs S w l) (hs : ∀ b, b < w.heap.size → S b → S' b) : PmSs S' w l :=
 (PmSs_iff l).2 fun x hx => ((PmSs_iff l).1 h x hx).mono hs
theorem partsF_fuel (word : ByteArray) (hw : word ≠ ⟨#[]⟩) (pf : RS → RS × Prd) (hn : ∀ s : RS, s.ok → s.next (pf s).1) : ∀ (f : Nat) (s : RS) (acc : List Prd), s.ok → s.rest.length ≤ f → partsF word pf f s acc = partsF word pf s.rest.length s acc := by
 intro f
 induction f using Nat.strongRecOn with
 | ind f ih =>
  intro s acc hs hf
  have hp := hs.pos
  obtain ⟨m, hm⟩ : ∃ m, s.rest.length = m + 1 := ⟨s.rest.length - 1, by omega⟩
  obtain ⟨f', rfl⟩ : ∃ f', f = f' + 1 := ⟨f - 1, by omega⟩
  rw [hm]
  unfold partsF
  cases hc : s.comes word with
  | false => rfl
  | true =>
   simp only [if_true]
   have h1 := hs.pass (RS.more_of hw hc)
   have h2 := hn _ h1.1
   have h3 := h2.2
   rw [ih f' (by omega) _ _ h2.1 (by omega)]
   by_cases he : m = f' + 1
   ·omega
   ·rw [← ih m (by omega) _ _ h2.1 (by omega)]
theorem partsF_step (word : ByteArray) (hw : word ≠ ⟨#[]⟩) (pf : RS → RS × Prd) (hn : ∀ s : RS, s.ok → s.next (pf s).1) (s : RS) (acc : List Prd) (hs : s.ok) (hc : s.comes word = true) : partsF word pf s.rest.length s acc = partsF word pf (pf s.pass).1.rest.length (pf s.pass).1 (acc ++ [(pf s.pass).2]) := by
 have h1 := hs.pass (RS.more_of hw hc)
 have h2 := hn _ h1.1
 have h3 := h2.2
 have hp := hs.pos
 obtain ⟨m, hm⟩ : ∃ m, s.rest.length = m + 1 := ⟨s.rest.length - 1, by omega⟩
 rw [hm, partsF, if_pos hc]
 exact partsF_fuel word hw pf hn m _ _ h2.1 (by omega)
theorem partsF_end (word : ByteArray) (pf : RS → RS × Prd) (s : RS) (acc : List Prd) (hc : s.comes word = false) : partsF word pf s.rest.length s acc = (s, acc) := by
 cases s.rest.length with
 | zero => rfl
 | succ m => rw [partsF, if_neg (by simp [hc])]
end Go.Proofs.Ytfambadamebjjaa
namespace Go.Proofs.Ytfambadamebjjaa
open Go.RowKit

theorem pred_infoT : (Try.prog.info? 34).map (fun i => (i.zero, i.size, i.bytes)) = some (some (.agg z10), 10, 136) := by kernel_rfl
theorem pred_el : ElT 32 34 (.agg z10) 10 136 := ⟨Try.underlying32, info_partsT pred_infoT, by decide, by decide, by decide⟩
theorem wpList_append_win {ops : Array Oper} {rest : List Oper} {o : Oper} {act : Act} {Q : Exit → Act → World → Prop} {w : World} (hgd : o.guard = none) (s x : Operand) {sl e : TypeId} {z : Value} {sz by' : Nat} (E : ElT sl e z sz by')
  (ho : o.op = .call { callee := .builtin .append, args := #[s, x], argTypes := #[sl, sl] })
  {a : Option Addr} {cap n : Nat} {xs : List Value} (h : Win sz w a cap n xs) (hn : n ≤ 1000000)
  (hs : act.eval s = .slice a n cap) (ad : Addr) (c : Nat) (hx : act.eval x = .slice (some ad) 1 c) (news : List Value) (hnl : news.length = sz) (hnews : ∀ j u, news[j]? = some u → w.cell? (ad.add j) = some u) (h1 : ∀ u ∈ news, u.oneCell' = true)
  (hk : ∀ a' cap' w', Win sz w' a' cap' (n + 1) (xs ++ news) → Only (bk a) w w' → (∀ k, bk a' k → bk a k ∨ w.heap.size ≤ k) → wpList Try.prog ops Q rest (act.put o.dst (.slice a' (n + 1) cap')) w') :
  wpList Try.prog ops Q (o :: rest) act w := by
 obtain ⟨a', cap', w', hr, h2, h3, h4⟩ := run_append_win E h hn ad c news hnl hnews h1 o.type
 have hK := hk a' cap' w' h2 h3 h4
 refine wpList_plain hgd fun K hK' => ?_
 unfold Oper.wp
 simp only [execOp, ho, resolve, invoke, builtin, Sem.run_bind, Sem.run_pure, Result.andThen_ok, List.map_toArray, List.map_cons, List.map_nil, hs, hx, hr]
 exact hK' _ _ hK
theorem fold_ten {cs : Array Value} (h : cs.size = 10) : Array.foldl (fun (cs : Array Value) (x : Value × Nat) => cs.setIfInBounds x.snd x.fst) #[.int .i64 0, .string ⟨#[]⟩, .int .i64 0, .int .i64 0, .int .i64 0, .string ⟨#[]⟩, .string ⟨#[]⟩, .slice Option.none 0 0, .slice Option.none 0 0, .int .i64 0] cs.zipIdx 0 10 = cs := by
 obtain ⟨l⟩ := cs
 match l, h with
 | [a0, a1, a2, a3, a4, a5, a6, a7, a8, a9], _ => simp
theorem join_one (kind pos : Nat) (x : Prd) : joinP kind pos [x] = x := rfl
theorem join_more (kind pos : Nat) (l : List Prd) (h : l.length ≠ 1) : joinP kind pos l = .mk kind ⟨#[]⟩ 0 ⟨0, 0, ⟨#[]⟩⟩ ⟨#[]⟩ [] l pos := by
 unfold joinP
 split
 ·exact absurd rfl h
 ·rfl
end Go.Proofs.Ytfambadamebjjaa
