/- Slices of ints that a call makes itself; an append as a step of a region that draws its order. -/
import Derived.Test.YtiahfdlmjfpglaaDoorTotal
import Derived.Test.YtiahfdlmjfpglaaDoorOrdersM
import Derived.Deep.AppendLies
import Derived.Deep.RegionHeld3
namespace Go.Proofs.YtiahfdlmjfpglaaDoor
open Go.RowKit

/-- A slice of ints of the call's own, made since W. -/
structure OwnInts (W : World) (l : List Int) (v : Value) (m : Nat) (wr : World) : Prop where
  own : wr.ownsRow W.heap.size 3 1 v m (l.map (Value.int .i64))
  len : m = l.length
  below : Below W.heap.size W wr
theorem OwnInts.step {W : World} {l x : List Int} {v v' : Value} {m k : Nat} {wr w2 : World} {news : List Value} (h : OwnInts W l v m wr) (o : Obj) (hx : news = x.map (Value.int .i64)) (hk : k = x.length)
    (hown : w2.ownsRow W.heap.size 3 1 v' (m + k) (l.map (Value.int .i64) ++ news)) (hg : (wr.alloc o).grownBy w2 v.ownBlock) : OwnInts W (l ++ x) v' (m + k) w2 := by
  have hs := h.below.size
  exact ⟨by rw [List.map_append, ← hx]; exact hown, by rw [h.len, hk, List.length_append], (h.below.alloc hs o).grown hg (by simp; omega) (fun k hk => (h.own.lt k hk).1)⟩
theorem OwnInts.step' {W : World} {l x : List Int} {v v' : Value} {m k : Nat} {wr w2 : World} {news : List Value} (h : OwnInts W l v m wr) (hx : news = x.map (Value.int .i64)) (hk : k = x.length)
    (hown : w2.ownsRow W.heap.size 3 1 v' (m + k) (l.map (Value.int .i64) ++ news)) (hg : wr.grownBy w2 v.ownBlock) : OwnInts W (l ++ x) v' (m + k) w2 := by
  have hs := h.below.size
  exact ⟨by rw [List.map_append, ← hx]; exact hown, by rw [h.len, hk, List.length_append], h.below.grown hg hs (fun k hk => (h.own.lt k hk).1)⟩
theorem OwnInts.begin (W wr : World) (h : Below W.heap.size W wr) : OwnInts W [] (.slice none 0 0) 0 wr := ⟨World.ownsRow_nil _ _ _ _, rfl, h⟩
theorem OwnInts.slice {W : World} {l : List Int} {v : Value} {m : Nat} {wr : World} (h : OwnInts W l v m wr) : ∃ ao cap, v = .slice ao m cap := by
  rcases h.own.2 with ⟨hv, h0⟩ | ⟨g, cap, cur, hv, _⟩
  · exact ⟨none, 0, by rw [hv, h0]⟩
  · exact ⟨_, _, hv⟩
theorem OwnInts.drewN {W : World} {l : List Int} {v : Value} {m : Nat} {wr : World} (h : OwnInts W l v m wr) (n : Nat) : OwnInts W l v m (wr.drewN n) :=
  ⟨h.own, h.len, below_drewN h.below n⟩
theorem OwnInts.more {W : World} {l : List Int} {v : Value} {m : Nat} {wr w2 : World} (h : OwnInts W l v m wr) (hb : Below wr.heap.size wr w2) : OwnInts W l v m w2 := by
  have hs := h.below.size
  refine ⟨?_, h.len, h.below.trans (hb.mono hs)⟩
  rcases h.own with ⟨h1, h2⟩
  refine ⟨h1, ?_⟩
  rcases h2 with h2 | ⟨g, cap, cur, hv, hr⟩
  · exact .inl h2
  · right
    have hlt := (h.own.lt g (by rw [hv]; rfl)).2
    have hb' := hb.block g hlt
    refine ⟨g, cap, cur, hv, ?_⟩
    rw [hb']
    exact hr
theorem add_at (g o j : Nat) : (⟨g, o, none⟩ : Addr).add j = ⟨g, o + j, none⟩ := by
  unfold Addr.add
  split
  · subst_vars; rfl
  · rfl
theorem int_info : (Tryd.prog.info? 3).map (fun i => (i.zero, i.size, i.bytes)) = some (some (.int .i64 0), 1, 8) := by kernel_rfl
theorem info_parts {o : Option TypeInfo} {z : Value} {s b : Nat} (h : o.map (fun i => (i.zero, i.size, i.bytes)) = some (some z, s, b)) : ∃ i, o = some i ∧ i.zero = some z ∧ i.size = s ∧ i.bytes = b := by
  cases o with
  | none => simp at h
  | some i => simp at h; exact ⟨i, rfl, h.1, h.2.1, h.2.2⟩
/-- The cells of a part of a row. -/
theorem part_cells {w : World} {T : List Int} {g o q m : Nat} (h : IntsAt w (some ⟨g, o, none⟩) T) : ∀ j u, (((T.drop q).take m).map (Value.int .i64))[j]? = some u → w.cell? ((⟨g, o + q, none⟩ : Addr).add j) = some u := by
  intro j u hu
  rw [List.getElem?_map, Option.map_eq_some_iff] at hu
  obtain ⟨x, hx, rfl⟩ := hu
  rw [List.getElem?_take] at hx
  split at hx
  · rw [List.getElem?_drop] at hx
    have hl : q + j < T.length := by
      rcases Nat.lt_or_ge (q + j) T.length with h' | h'
      · exact h'
      · rw [List.getElem?_eq_none h'] at hx; cases hx
    obtain ⟨b, off, e, _, hc⟩ := h.at hl
    cases e
    rw [add_at]
    have e : T.getD (q + j) 0 = x := by simp [List.getD, hx]
    rw [e] at hc
    rw [Nat.add_assoc]
    simpa using hc
  · cases hx
theorem one_cells (l : List Int) : ∀ u ∈ l.map (Value.int .i64), u.oneCell' = true := by
  intro u hu
  rw [List.mem_map] at hu
  obtain ⟨x, _, rfl⟩ := hu
  rfl

theorem own_ints {wr : World} {B : Nat} {v : Value} {m : Nat} {l : List Int} (h : wr.ownsRow B 3 1 v m (l.map (Value.int .i64))) (hm : l.length ≤ 9223372036854775807) : ∃ ao cap, v = .slice ao m cap ∧ l.length = m ∧ IntsAt wr ao l := by
  have hl : l.length = m := by have := h.1; simpa using this
  rcases h.2 with ⟨hv, h0⟩ | ⟨g, cap', cur, hv, _⟩
  · exact ⟨none, 0, by rw [hv, h0], hl, hm, .inl (List.eq_nil_of_length_eq_zero (by omega))⟩
  · refine ⟨some ⟨g, 0, none⟩, cap', hv, hl, hm, .inr ⟨g, 0, rfl, (h.lt g (by rw [hv]; rfl)).2, fun i hi => ?_⟩⟩
    have := h.cells (g := g) (by rw [hv]; rfl) i (.int .i64 (l.getD i 0)) (by simp [List.getD, hi])
    rw [add_at] at this
    exact this
theorem turn_at (n : Int) {k : Nat} (h1000 : k ≤ 1000) (h : 0 < k) : ∃ q : Nat, q < k ∧ wrap64 ((IntKind.u64.wrap n).tmod (k : Int)) = (q : Int) := by
  have h0 : 0 ≤ IntKind.u64.wrap n := by
    unfold IntKind.wrap
    simp [IntKind.signed, IntKind.bits]
    omega
  have e := Int.tmod_eq_emod_of_nonneg (b := (k : Int)) h0
  have hb := Int.emod_lt_of_pos (IntKind.u64.wrap n) (show (0 : Int) < (k : Int) by omega)
  have ha := Int.emod_nonneg (IntKind.u64.wrap n) (show (k : Int) ≠ 0 by omega)
  refine ⟨((IntKind.u64.wrap n) % (k : Int)).toNat, by omega, ?_⟩
  rw [e]
  generalize IntKind.u64.wrap n % (k : Int) = m at *
  unfold wrap64
  omega
theorem step_append_own (w : World) {P : Program} {ops : Array Oper} {o : Oper} {a : Act} {K : Act → World → Prop} {Q : Exit → Act → World → Prop} {E : Prop} (hgd : o.guard = none) (s x : Operand) (t : TypeId)
    (ho : o.op = .call { callee := .builtin .append, args := #[s, x], argTypes := #[t, t] })
    (base : Nat) (e : TypeId) (i : TypeInfo) (z : Value) (size bytes : Nat) (ht : P.underlying t = some (.slice e)) (hi : P.info? e = some i) (hz : i.zero = some z)
    (hsize : i.size = size) (hby : i.bytes = bytes) (hzs : z.cells.size = size) (hsz : 0 < size)
    (v : Value) (n : Nat) (xs : List Value) (hs : a.eval s = v) (hown : w.ownsRow base e size v n xs)
    (ad : Addr) (m c : Nat) (news : List Value) (hx : a.eval x = .slice (some ad) m c) (hl : news.length = m * size) (hnews : ∀ j u, news[j]? = some u → w.cell? (ad.add j) = some u) (h1 : ∀ u ∈ news, u.oneCell' = true)
    (h63 : n + m ≤ maxLen) (hbytes : (n + m) * bytes ≤ 140737488355328) (hbase : base ≤ w.heap.size)
    (h : ∀ v' w', w'.ownsRow base e size v' (n + m) (xs ++ news) → w.grownBy w' v.ownBlock → K (a.put o.dst v') w') :
    if Region.wanted o (yielded ops a.tmps) = true then Oper.wp P o a w K Q else E := by
  have hw : Region.wanted o (yielded ops a.tmps) = true := by simp [Region.wanted, hgd]
  rw [if_pos hw]
  exact wp_append_own w s x t ho base e i z size bytes ht hi hz hsize hby hzs hsz v n xs hs hown ad m c news hx hl hnews h1 h63 hbytes hbase fun v' w' h2 h3 _ => h v' w' h2 h3
theorem own_of {W wr : World} {l : List Int} {v : Value} {m : Nat} (h : OwnInts W l v m wr) (hm : l.length ≤ 9223372036854775807) : ∃ ao cap, v = .slice ao m cap ∧ l.length = m ∧ IntsAt wr ao l := own_ints h.own hm
theorem own_empty (B : Nat) (w : World) (hB : B ≤ w.heap.size) : (w.alloc (.cells #[] 3)).ownsRow B 3 1 (.slice (some ⟨w.heap.size, 0, none⟩) 0 0) 0 [] :=
  ⟨rfl, .inr ⟨w.heap.size, 0, #[], rfl, hB, heap_alloc_new _ _, Nat.le_refl _, Nat.zero_le _, rfl, rfl⟩⟩
theorem back_more {l : List Int} {r : Nat} (h : r < l.length) : (l.drop r).reverse = (l.drop (r + 1)).reverse ++ [l.getD r 0] := by
  rw [List.drop_eq_getElem_cons h, List.reverse_cons]; simp [List.getD, h]
/-- A part of a row of ints is one. -/
theorem ints_take {w : World} {a : Option Addr} {l : List Int} (q : Nat) (h : IntsAt w a l) : IntsAt w a (l.take q) := by
  obtain ⟨h1, h2⟩ := h
  refine ⟨by rw [List.length_take]; omega, ?_⟩
  rcases h2 with h2 | ⟨b, off, e, hlt, hc⟩
  · left; rw [h2]; simp
  · refine .inr ⟨b, off, e, hlt, fun i hi => ?_⟩
    rw [List.length_take] at hi
    have : (l.take q).getD i 0 = l.getD i 0 := by simp [List.getD, show i < q by omega]
    rw [this]
    exact hc i (by omega)
theorem ints_drop {w : World} {b off : Nat} {l : List Int} (q : Nat) (h : IntsAt w (some ⟨b, off, none⟩) l) (hq : q < l.length) : IntsAt w (some ⟨b, off + q, none⟩) (l.drop q) := by
  obtain ⟨h1, h2⟩ := h
  refine ⟨by rw [List.length_drop]; omega, ?_⟩
  rcases h2 with h2 | ⟨b', off', e, hlt, hc⟩
  · rw [h2] at hq; simp at hq
  · cases e
    refine .inr ⟨b, off + q, rfl, hlt, fun i hi => ?_⟩
    rw [List.length_drop] at hi
    have : (l.drop q).getD i 0 = l.getD (q + i) 0 := by simp [List.getD]
    rw [this, Nat.add_assoc]
    exact hc (q + i) (by omega)
theorem ints64_sub {l m : List Int} (h : ints64 l) (hs : ∀ x ∈ m, x ∈ l) : ints64 m := fun x hx => h x (hs x hx)
end Go.Proofs.YtiahfdlmjfpglaaDoor
