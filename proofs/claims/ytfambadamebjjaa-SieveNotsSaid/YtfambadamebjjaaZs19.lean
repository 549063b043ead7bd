import Derived.Test.YtfambadamebjjaaZs18
import Derived.ArgAppend
import Derived.Maps.AppendAt
import Derived.Deep.RegionLaw
import Derived.Deep.RegionHeld
import Derived.KernelRfl
import Derived.Deep.MidRow
import Derived.Lib.Hide
import Derived.Lib.SliceRun
import Derived.ProofKit
import Derived.OpenShut
import Derived.Deep.Slices
import Derived.Deep.Fields
import Derived.ChangeSame
import Derived.Lib.SmallJoins
set_option linter.unusedSimpArgs false
set_option linter.unusedVariables false
namespace Go.Proofs.Ytfambadamebjjaa
open Go.RowKit

def VvAt (B : Nat) (w : World) (a : Option Addr) (l : List Vv) : Prop :=
 l.length ≤ 9223372036854775807 ∧ (l = [] ∨ ∃ b off, a = some ⟨b, off, none⟩ ∧ b < B ∧ ∀ i, i < l.length → w.cell? ⟨b, off + i * 3, none⟩ = some (.int .i64 (l.getD i default).k) ∧ w.cell? ⟨b, off + i * 3 + 1, none⟩ = some (.int .i64 (l.getD i default).n) ∧ w.cell? ⟨b, off + i * 3 + 2, none⟩ = some (.string (l.getD i default).s))
theorem VvAt.keep {B : Nat} {w w' : World} {a : Option Addr} {l : List Vv} (h : VvAt B w a l) {row : Option Nat} (hg : w.grownBy w' row) (hr : ∀ k, row = some k → B ≤ k) : VvAt B w' a l := by
 refine ⟨h.1, h.2.imp id fun ⟨b, off, e, hlt, hc⟩ => ⟨b, off, e, hlt, fun i hi => ?_⟩⟩
 have hb : some b ≠ row := fun e => by have := hr b e.symm; omega
 exact ⟨hg.cell (hc i hi).1 hb, hg.cell (hc i hi).2.1 hb, hg.cell (hc i hi).2.2 hb⟩
theorem VvAt.mono {B B' : Nat} {w : World} {a : Option Addr} {l : List Vv} (h : VvAt B w a l) (hB : B ≤ B') : VvAt B' w a l := ⟨h.1, h.2.imp id fun ⟨b, off, e, hlt, hc⟩ => ⟨b, off, e, by omega, hc⟩⟩
theorem VvAt.at {B : Nat} {w : World} {a : Option Addr} {l : List Vv} (h : VvAt B w a l) {i : Nat} (hi : i < l.length) : ∃ b off, a = some ⟨b, off, none⟩ ∧ b < B ∧ w.cell? ⟨b, off + i * 3, none⟩ = some (.int .i64 (l.getD i default).k) ∧ w.cell? ⟨b, off + i * 3 + 1, none⟩ = some (.int .i64 (l.getD i default).n) ∧ w.cell? ⟨b, off + i * 3 + 2, none⟩ = some (.string (l.getD i default).s) := by
 rcases h.2 with h | ⟨b, off, e, hlt, hc⟩
 ·rw [h] at hi; simp at hi
 ·exact ⟨b, off, e, hlt, hc i hi⟩
def Fits (l : List Cl) (r : List Vv) : Prop := r.length = l.length ∧ ∀ i, i < l.length → holdsB (l.getD i default) (r.getD i default) = true
end Go.Proofs.Ytfambadamebjjaa
namespace Go.Proofs.Ytfambadamebjjaa
open Go.RowKit

section
variable {P : Program} {ops : Array Oper} {Q : Exit → Act → World → Prop} {md : Region.Mode} {S : World → Prop} {i : Nat} {oi : Oper} {v : Value} {fuel : Nat} {listed : Array Bool} {a : Act} {w : World}
theorem TKA (hi : ops[i]? = some oi) (hy : YieldsIf P ops S oi v a) (h : wpAnyH P md ops Q S fuel (listed.setIfInBounds i true) (a.put oi.dst v) w) (hs : Region.noSelect ops = true := by kernel_rfl) (hf : Region.free md ops listed i = true := by kernel_rfl) (hr : (Region.ready md ops listed).contains i = true := by kernel_rfl) (hQ : ∀ c a w, Q (.panic c) (a.put oi.dst v) w → Q (.panic c) a w := by exact fun _ _ _ h => h) (hS : S w := by assumption) : wpAnyH P md ops Q S (fuel + 1) listed a w := wpAnyH_take hi hs hf hr hQ hy hS h
theorem TKB (hi : ops[i]? = some oi) (hy : ∀ w, S w → (execOp a.eval oi).run P w = .ok (.value v) w) (h : wpAnyH P md ops Q S fuel (listed.setIfInBounds i true) (a.put oi.dst v) w) (hw : Region.wanted oi (yielded ops a.tmps) = true := by rfl) (hs : Region.noSelect ops = true := by kernel_rfl) (hf : Region.free md ops listed i = true := by kernel_rfl) (hr : (Region.ready md ops listed).contains i = true := by kernel_rfl) (hQ : ∀ c a w, Q (.panic c) (a.put oi.dst v) w → Q (.panic c) a w := by exact fun _ _ _ h => h) (hS : S w := by assumption) : wpAnyH P md ops Q S (fuel + 1) listed a w := wpAnyH_take hi hs hf hr hQ (.inl ⟨hw, hy⟩) hS h
theorem TKU (hi : ops[i]? = some oi) (h : wpAnyH P md ops Q S fuel (listed.setIfInBounds i true) (a.put oi.dst undef) w) (hw : Region.wanted oi (yielded ops a.tmps) = false := by rfl) (hs : Region.noSelect ops = true := by kernel_rfl) (hf : Region.free md ops listed i = true := by kernel_rfl) (hr : (Region.ready md ops listed).contains i = true := by kernel_rfl) (hQ : ∀ c a w, Q (.panic c) (a.put oi.dst undef) w → Q (.panic c) a w := by exact fun _ _ _ h => h) (hS : S w := by assumption) : wpAnyH P md ops Q S (fuel + 1) listed a w := wpAnyH_take hi hs hf hr hQ (.inr ⟨hw, rfl⟩) hS h
theorem RD1 (ho : ops[i]? = some oi) (h : ∀ K' : Act → World → Prop, Shut (∀ a w, S w → (S w → wpAnyH P md ops Q S fuel (listed.setIfInBounds i true) a w) → K' a w) → if Region.wanted oi (yielded ops a.tmps) = true then Oper.wp P oi a w K' Q else K' (a.put oi.dst undef) w) (hr : Region.ready md ops listed = [i] := by kernel_rfl) : wpAnyH P md ops Q S (fuel + 1) listed a w := wpAnyH_ready hr (by simp) (AllReadyH.cons ho h AllReadyH.nil)
end

def bk (a : Option Addr) (k : Nat) : Prop := a.map Addr.block = some k
theorem bk_some (g o : Nat) (s : Option Nat) (k : Nat) : bk (some ⟨g, o, s⟩) k ↔ g = k := by simp [bk]
theorem Only.keepS {M : Nat → Prop} {w w' : World} (h : Only M w w') {b : Nat} (hb : b < w.heap.size) (hM : ¬ M b) (o : Nat) : w'.cell? ⟨b, o, none⟩ = w.cell? ⟨b, o, none⟩ ∧ w'.frozen? ⟨b, o, none⟩ = w.frozen? ⟨b, o, none⟩ :=
 ⟨World.cell?_of_block (a := ⟨b, o, none⟩) (h.block b hb hM), World.frozen?_of_block (a := ⟨b, o, none⟩) (h.block b hb hM)⟩
theorem Only.of_grown {w w' : World} {row : Option Nat} (h : w.grownBy w' row) : Only (fun k => row = some k) w w' := ⟨h.os, h.tape, h.output, h.size, fun b hb hM => h.block b hb (fun e => hM e.symm)⟩
theorem Only.of_none {M : Nat → Prop} {w w' : World} (h : w.grownBy w' none) : Only M w w' := ⟨h.os, h.tape, h.output, h.size, fun b hb _ => h.block b hb (by simp)⟩
theorem Only.mono {M M' : Nat → Prop} {w w' : World} (h : Only M w w') (hM : ∀ k, k < w.heap.size → M k → M' k) : Only M' w w' := ⟨h.os, h.tape, h.output, h.size, fun b hb hn => h.block b hb (fun e => hn (hM b hb e))⟩
structure Win (sz : Nat) (w : World) (a : Option Addr) (cap n : Nat) (xs : List Value) : Prop where
 len : xs.length = n * sz
 le : n ≤ cap
 max : cap ≤ maxLen
 lt : ∀ k, bk a k → k < w.heap.size
 mem : cap = 0 ∨ ∃ g off, a = some ⟨g, off, none⟩ ∧ (∀ j u, xs[j]? = some u → w.cell? ⟨g, off + j, none⟩ = some u) ∧ (∀ j, j < cap * sz → (w.cell? ⟨g, off + j, none⟩).isSome = true) ∧ ∀ o, w.frozen? ⟨g, o, none⟩ = false
theorem Win.nil (sz : Nat) (w : World) : Win sz w none 0 0 [] := ⟨by simp, Nat.le_refl _, Nat.zero_le _, fun k h => by simp [bk] at h, .inl rfl⟩
theorem Win.keep {sz : Nat} {w w' : World} {a : Option Addr} {cap n : Nat} {xs : List Value} {M : Nat → Prop} (h : Win sz w a cap n xs) (ho : Only M w w') (hM : ∀ k, bk a k → ¬ M k) : Win sz w' a cap n xs := by
 refine ⟨h.len, h.le, h.max, fun k hk => Nat.lt_of_lt_of_le (h.lt k hk) ho.size, h.mem.imp id fun ⟨g, off, e, hc, hs, hf⟩ => ⟨g, off, e, ?_, ?_, ?_⟩⟩
 all_goals
  have hg : bk a g := by rw [e, bk_some]
  have hk := fun o => ho.keepS (h.lt g hg) (hM g hg) o
 ·intro j u hj; rw [(hk _).1]; exact hc j u hj
 ·intro j hj; rw [(hk _).1]; exact hs j hj
 ·intro o; rw [(hk _).2]; exact hf o
theorem Win.keepG {sz : Nat} {w w' : World} {a : Option Addr} {cap n : Nat} {xs : List Value} (h : Win sz w a cap n xs) (hg : w.grownBy w' none) : Win sz w' a cap n xs := h.keep (M := fun _ => False) (.of_none hg) (fun _ _ e => e)
theorem own_win {B : Nat} {w : World} {e : TypeId} {sz n : Nat} {v : Value} {xs : List Value} (h : w.ownsRow B e sz v n xs) : ∃ a cap, v = .slice a n cap ∧ Win sz w a cap n xs ∧ (∀ k, bk a k → v.ownBlock = some k) := by
 rcases h.2 with ⟨hv, h0⟩ | ⟨g, cap, cur, hv, hb, hg, hc, hm, hcs, htk⟩
 ·exact ⟨none, 0, by rw [hv, h0], ⟨h.1, by omega, Nat.zero_le _, fun k h => by simp [bk] at h, .inl rfl⟩, fun k h => by simp [bk] at h⟩
 ·refine ⟨some ⟨g, 0, none⟩, cap, hv, ⟨h.1, hc, hm, fun k hk => ?_, .inr ⟨g, 0, rfl, fun j u hj => ?_, fun j hj => ?_, fun o => by simp [World.frozen?, hg]⟩⟩, fun k hk => ?_⟩
  ·rw [bk_some] at hk; subst hk; exact (Array.getElem?_eq_some_iff.1 hg).1
  ·have := h.cells (g := g) (by rw [hv]; rfl) j u hj
   rw [add_atT] at this
   exact this
  ·rw [cell_of_row w g _ cur _ _ hg, Array.getElem?_eq_getElem (by omega)]; rfl
  ·rw [bk_some] at hk; subst hk; rw [hv]; rfl
structure ElT (sl e : TypeId) (z : Value) (sz by' : Nat) : Prop where
 und : Try.prog.underlying sl = some (.slice e)
 inf : ∃ i, Try.prog.info? e = some i ∧ i.zero = some z ∧ i.size = sz ∧ i.bytes = by'
 zc : z.cells.size = sz
 pos : 0 < sz
 few : by' ≤ 256
theorem setCells_size (b : Nat) : ∀ (vs : List Value) (o : Nat) (w : World), (w.setCells b o vs).heap.size = w.heap.size
 | [], _, _ => rfl
 | v :: vs, o, w => by
  show ((w.setCell ⟨b, o, none⟩ v).setCells b (o + 1) vs).heap.size = _
  rw [setCells_size b vs]; simp [World.setCell]
theorem only_setCells (b : Nat) : ∀ (vs : List Value) (o : Nat) (w : World), Only (fun k => b = k) w (w.setCells b o vs)
 | [], _, w => Only.refl _ w
 | v :: vs, o, w => (((Only.refl (fun k => b = k) w).set (.inl rfl) o v).trans (only_setCells b vs (o + 1) _) (fun _ h => .inl h))
theorem Win.put {sz : Nat} {w : World} {g off cap n m : Nat} {xs ys vs : List Value} {o : Nat} (h : Win sz w (some ⟨g, off, none⟩) cap n xs) (hcap : cap ≠ 0) (ho : o + vs.length ≤ cap * sz) (hl : ys.length = m * sz) (hm : m ≤ cap)
  (hys : ∀ j u, ys[j]? = some u → (o ≤ j ∧ vs[j - o]? = some u) ∨ ((j < o ∨ o + vs.length ≤ j) ∧ xs[j]? = some u)) : Win sz (w.setCells g (off + o) vs) (some ⟨g, off, none⟩) cap m ys := by
 rcases h.mem with h0 | ⟨g', off', e, hc, hs, hf⟩
 ·exact absurd h0 hcap
 ·cases e
  have hin := World.cell?_setCells_in g vs (off + o) w (fun j hj => by rw [Nat.add_assoc]; exact hs _ (by omega))
  refine ⟨hl, hm, h.max, fun k hk => by rw [setCells_size]; exact h.lt k hk, .inr ⟨g, off, rfl, fun j u hj => ?_, fun j hj => World.isSome_setCells g vs _ w _ (hs j hj), fun i => by rw [World.frozen?_setCells]; exact hf i⟩⟩
  rcases hys j u hj with ⟨h1, h2⟩ | ⟨h1, h2⟩
  ·obtain ⟨hjl, hju⟩ := List.getElem?_eq_some_iff.1 h2
   have := hin (j - o) hjl
   rw [show off + o + (j - o) = off + j by omega] at this
   rw [this, hju]
  ·rw [World.cell?_setCells_out g vs (off + o) w ⟨g, off + j, none⟩ (fun _ _ => by
    show off + j < off + o ∨ off + o + vs.length ≤ off + j
    omega)]
   exact hc j u h2
theorem run_append_win {sl e : TypeId} {z : Value} {sz by' : Nat} (E : ElT sl e z sz by') {w : World} {a : Option Addr} {cap n : Nat} {xs : List Value} (h : Win sz w a cap n xs) (hn : n ≤ 1000000)
  (ad : Addr) (c : Nat) (news : List Value) (hnl : news.length = sz) (hnews : ∀ j u, news[j]? = some u → w.cell? (ad.add j) = some u) (h1 : ∀ u ∈ news, u.oneCell' = true) (ty : TypeId) :
  ∃ a' cap' w', (Builtin.append_ #[sl, sl] ty #[.slice a n cap, .slice (some ad) 1 c]).run Try.prog w = .ok (.slice a' (n + 1) cap') w' ∧ Win sz w' a' cap' (n + 1) (xs ++ news) ∧ Only (bk a) w w' ∧ (∀ k, bk a' k → bk a k ∨ w.heap.size ≤ k) := by
 obtain ⟨i0, hi, hz0, hz1, hz2⟩ := E.inf
 have hlen := h.len
 have hpos := E.pos
 have hby := E.few
 have hmx : n + 1 ≤ maxLen := by unfold maxLen; omega
 have hbb : (n + 1) * by' ≤ 140737488355328 := by
  have : (n + 1) * by' ≤ 1000001 * 256 := Nat.mul_le_mul (by omega) hby
  omega
 have fin : ∀ v' w', (Builtin.append_ #[sl, sl] ty #[.slice a n cap, .slice (some ad) 1 c]).run Try.prog w = .ok v' w' → w'.ownsRow w.heap.size e sz v' (n + 1) (xs ++ news) → w.grownBy w' none → ∃ a' cap' w', (Builtin.append_ #[sl, sl] ty #[.slice a n cap, .slice (some ad) 1 c]).run Try.prog w = .ok (.slice a' (n + 1) cap') w' ∧ Win sz w' a' cap' (n + 1) (xs ++ news) ∧ Only (bk a) w w' ∧ (∀ k, bk a' k → bk a k ∨ w.heap.size ≤ k) := by
  intro v' w' hr ho hg
  obtain ⟨a', cap', rfl, hw, hb⟩ := own_win ho
  exact ⟨a', cap', w', hr, hw, .of_none hg, fun k hk => .inr (World.ownsRow.lt ho k (hb k hk)).1⟩
 by_cases hroom : n + 1 ≤ cap
 ·rcases h.mem with h0 | ⟨g, off, rfl, hc, hs, hf⟩
  ·omega
  ·have hsz : n * sz + sz ≤ cap * sz := by
    have := Nat.mul_le_mul_right sz hroom
    rw [Nat.add_mul] at this; omega
   have hr := run_append_room_cells (P := Try.prog) w sl ty e i0 E.und hi g off n cap ad 1 c news (by rw [hz1, hnl]; omega) hnews h1 hroom
    (fun j hj => by rw [hz1, Nat.add_assoc]; exact hs _ (by omega)) (fun j hj => hf _)
   rw [hz1] at hr
   refine ⟨_, _, _, hr, h.put (by omega) (by omega) (by rw [List.length_append, hlen, hnl, Nat.add_mul]; omega) hroom (fun j u hj => ?_), (only_setCells g news _ w).mono (fun k _ e => by rw [bk_some]; exact e), fun k hk => .inl hk⟩
   by_cases hlt : j < n * sz
   ·rw [List.getElem?_append_left (by omega)] at hj
    exact .inr ⟨.inl hlt, hj⟩
   ·rw [List.getElem?_append_right (by omega), hlen] at hj
    exact .inl ⟨by omega, hj⟩
 ·obtain rfl : cap = n := by have := h.le; omega
  rcases h.mem with h0 | ⟨g, off, rfl, hc, hs, hf⟩
  ·subst h0
   have hxs : xs = [] := List.eq_nil_of_length_eq_zero (by omega)
   subst hxs
   cases a with
   | none =>
    obtain ⟨v', w', hrun, r1, r2, _⟩ := run_append_own (P := Try.prog) w w.heap.size sl ty e i0 z sz by' E.und hi hz0 hz1 hz2 E.zc hpos (.slice none 0 0) 0 [] (World.ownsRow_nil w _ _ sz) ad 1 c news (by omega) hnews h1 (by omega) (by omega) (Nat.le_refl _)
    exact fin v' w' hrun r1 ⟨r2.os, r2.tape, r2.output, r2.size, fun k hk _ => r2.block k hk (by simp [Value.ownBlock])⟩
   | some a' =>
    obtain ⟨v', w', hrun, r1, r2⟩ := run_append_arg_grows (P := Try.prog) w sl ty e i0 z sz by' E.und hi hz0 hz1 hz2 E.zc hpos a' 0 0 [] (by simp) (by intro _ _ h'; simp at h') ad 1 c news (by omega) hnews (by omega) (by omega) (by omega)
    exact fin v' w' hrun r1 r2
  ·obtain ⟨v', w', hrun, r1, r2⟩ := run_append_arg_grows (P := Try.prog) w sl ty e i0 z sz by' E.und hi hz0 hz1 hz2 E.zc hpos ⟨g, off, none⟩ cap cap xs hlen (fun j u hj => by rw [add_atT]; exact hc j u hj) ad 1 c news (by omega) hnews (by omega) hmx hbb
   exact fin v' w' hrun r1 r2
end Go.Proofs.Ytfambadamebjjaa
namespace Go.Proofs.Ytfambadamebjjaa
open Go.RowKit

def Tk.c (t : Tk) : List Value := [.int .i64 t.kind, .string t.text, .int .i64 t.pos]
theorem tk_info : (Try.prog.info? 94).map (fun i => (i.zero, i.size, i.bytes)) = some (some (.agg #[.int .i64 0, .string ⟨#[]⟩, .int .i64 0]), 3, 32) := by kernel_rfl
theorem info_partsX {o : Option TypeInfo} {z : Value} {s b : Nat} (h : o.map (fun i => (i.zero, i.size, i.bytes)) = some (some z, s, b)) : ∃ i, o = some i ∧ i.zero = some z ∧ i.size = s ∧ i.bytes = b := by
 cases o with
 | none => simp at h
 | some i => simp at h; exact ⟨i, rfl, h.1, h.2.1, h.2.2⟩
theorem tokL_kind (l : List UInt8) (kd N : Nat) (h : tokL l = (kd, N, 0)) : kd ≠ 0 := by
 match l, h with
 | [], h => simp [tokL] at h
 | a :: r, h =>
  simp only [tokL] at h
  repeat' split at h
  all_goals (simp only [Prod.mk.injEq] at h; omega)
theorem tk_snoc (l : List Tk) (t : Tk) : (l ++ [t]).flatMap Tk.c = l.flatMap Tk.c ++ t.c := by simp
theorem lexF_round (s : ByteArray) (f k : Nat) (acc : List Tk) :
  (nxt s k = s.size → lexF s (f + 1) k acc = .ok (acc ++ [⟨0, ⟨#[]⟩, s.size⟩])) ∧
  (nxt s k ≠ s.size → ∀ kd N c, tokL (s.data.toList.drop (nxt s k)) = (kd, N, c) →
   (c ≠ 0 → lexF s (f + 1) k acc = .error (nxt s k, c)) ∧
   (c = 0 → acc.length = 250 → lexF s (f + 1) k acc = .error (nxt s k, 3)) ∧
   (c = 0 → acc.length ≠ 250 → lexF s (f + 1) k acc = lexF s f (nxt s k + N) (acc ++ [⟨kd, s.extract (nxt s k) (nxt s k + N), nxt s k⟩]))) := by
 unfold nxt
 constructor
 ·intro h
  rw [lexF, if_pos h]
 ·intro h kd N c ht'
  refine ⟨fun hc => ?_, fun hc hl => ?_, fun hc hl => ?_⟩
  ·obtain ⟨d, rfl⟩ : ∃ d, c = d + 1 := ⟨c - 1, by omega⟩
   rw [lexF, if_neg h, ht']
  ·subst hc
   rw [lexF, if_neg h, ht']; simp only [hl, if_true]
  ·subst hc
   rw [lexF, if_neg h, ht']; simp only [hl, if_false]
theorem grown_thenX {a b c : World} {row row' : Option Nat} (h : a.grownBy b row) (k : b.grownBy c row') (hr : ∀ j, row' = some j → a.heap.size ≤ j) : a.grownBy c row :=
 ⟨k.os.trans h.os, k.tape.trans h.tape, k.output.trans h.output, Nat.le_trans h.size k.size, fun i hi hne => (k.block i (Nat.lt_of_lt_of_le hi h.size) (fun e => by have := hr i e.symm; omega)).trans (h.block i hi hne)⟩
theorem own_monoX {w : World} {B B' : Nat} {e : TypeId} {k : Nat} {v : Value} {n : Nat} {xs : List Value} (h : w.ownsRow B e k v n xs) (hB : B' ≤ B) : w.ownsRow B' e k v n xs :=
 ⟨h.1, h.2.imp id fun ⟨g, cap, cur, hv, hb, r⟩ => ⟨g, cap, cur, hv, Nat.le_trans hB hb, r⟩⟩
theorem slice_of_ownX {w : World} {B : Nat} {e : TypeId} {k : Nat} {v : Value} {n : Nat} {xs : List Value} (h : w.ownsRow B e k v n xs) : ∃ ao cap, v = .slice ao n cap := by
 rcases h.2 with ⟨hv, h0⟩ | ⟨g, cap, cur, hv, _⟩
 ·exact ⟨none, 0, by rw [hv, h0]⟩
 ·exact ⟨_, _, hv⟩
theorem own_tk {w : World} {B B' : Nat} {v : Value} {N : Nat} {acc : List Tk} {x : Tk} {xs : List Value} (h : w.ownsRow B 94 3 v (N + 1) (acc.flatMap Tk.c ++ xs)) (hN : N = acc.length) (hx : x.c = xs) (hB : B' ≤ B) :
  w.ownsRow B' 94 3 v (acc ++ [x]).length ((acc ++ [x]).flatMap Tk.c) := by
 rw [tk_snoc, hx, List.length_append, ← hN]
 exact own_monoX h hB
theorem three_new (W : World) (v0 v1 v2 : Value) (T : TypeId) (j : Nat) (u : Value) (h : [v0, v1, v2][j]? = some u) : (W.alloc (.cells #[v0, v1, v2] T)).cell? ((⟨W.heap.size, 0, none⟩ : Addr).add j) = some u := by
 have e := heap_alloc_new W (.cells #[v0, v1, v2] T)
 match j, h with
 | 0, h => exact (cell_of_row _ _ 0 _ _ _ e).trans h
 | 1, h => exact (cell_of_row _ _ 1 _ _ _ e).trans h
 | 2, h => exact (cell_of_row _ _ 2 _ _ _ e).trans h
 | j + 3, h => simp at h
end Go.Proofs.Ytfambadamebjjaa
namespace Go.Proofs.Ytfambadamebjjaa
open Go.ChangeShapes Go.WideShapes Go.ChangeAt Go.RowKit Go.Joins Go.Deep

theorem addS_plain (b o k : Nat) : (⟨b, o, none⟩ : Addr).add k = ⟨b, o + k, none⟩ := by
 unfold Addr.add
 by_cases h : k = 0
 ·subst h; simp
 ·simp [h]
theorem blockS_of_cell {w : World} {b o : Nat} {v : Value} (h : w.cell? ⟨b, o, none⟩ = some v) : b < w.heap.size := by
 rcases Nat.lt_or_ge b w.heap.size with h' | h'
 ·exact h'
 ·simp [World.cell?, Array.getElem?_eq_none h'] at h
theorem cellS_plain {W : World} {a : Addr} {v : Value} (h : W.cell? (a.add 0) = some v) : a = ⟨a.block, a.off, none⟩ := by
 obtain ⟨b, off, spot⟩ := a
 have : spot = none := by simpa [Addr.add] using World.cell?_spot h
 subst this
 rfl
section
variable {H : Type} {enc : TypeId × Value → H}

set_option maxRecDepth 100000 in
theorem valueS_cells {W : World} {base n : Nat} {spare : Nat → Bool} {held : Bool} {cs : List Value} {y : DataW H × List MemPlace} (ht : DataW.trod enc Try.prog W base spare held n 31 cs = some y) (hcl : cs.length = 3) :
  ∃ x : Vv, cs = [.int .i64 x.k, .int .i64 x.n, .string x.s] ∧ x.s.size ≤ maxLen := by
 obtain ⟨c0, c1, c2, rfl⟩ : ∃ c0 c1 c2, cs = [c0, c1, c2] := by
  match cs, hcl with
  | [c0, c1, c2], _ => exact ⟨c0, c1, c2, rfl⟩
 obtain ⟨y0, y1, y2, m, _, _, h0, h1, h2⟩ := trod_struct3 Try.underlying31 ht
 have k0 : Try.prog.cellsOf 29 = 1 := by kernel_rfl
 have k1 : Try.prog.cellsOf 3 = 1 := by kernel_rfl
 have k2 : Try.prog.cellsOf 9 = 1 := by kernel_rfl
 simp only [k0, k1, k2, List.drop_zero, List.drop_succ_cons, List.take_succ_cons, List.take_zero] at h0 h1 h2
 obtain ⟨k, e0, _, _⟩ := DataW.trod_int Try.underlying29 h0
 obtain ⟨n, e1, _, wn⟩ := DataW.trod_int Try.underlying3 h1
 obtain ⟨s, e2, _, hs⟩ := DataW.trod_string Try.underlying9 h2
 simp only [List.cons.injEq, and_true] at e0 e1 e2
 subst e0 e1 e2
 exact ⟨⟨k, n, s⟩, rfl, hs⟩
set_option maxRecDepth 100000 in
theorem colS_cells {W : World} {base n : Nat} {spare : Nat → Bool} {held : Bool} {cs : List Value} {y : DataW H × List MemPlace} (ht : DataW.trod enc Try.prog W base spare held n 103 cs = some y) (hcl : cs.length = 3) :
  ∃ x : Cl, cs = [.string x.n, .int .i64 x.k, .bool x.b] ∧ x.n.size ≤ maxLen := by
 obtain ⟨c0, c1, c2, rfl⟩ : ∃ c0 c1 c2, cs = [c0, c1, c2] := by
  match cs, hcl with
  | [c0, c1, c2], _ => exact ⟨c0, c1, c2, rfl⟩
 obtain ⟨y0, y1, y2, m, _, _, h0, h1, h2⟩ := trod_struct3 Try.underlying103 ht
 have k0 : Try.prog.cellsOf 29 = 1 := by kernel_rfl
 have k1 : Try.prog.cellsOf 4 = 1 := by kernel_rfl
 have k2 : Try.prog.cellsOf 9 = 1 := by kernel_rfl
 simp only [k0, k1, k2, List.drop_zero, List.drop_succ_cons, List.take_succ_cons, List.take_zero] at h0 h1 h2
 obtain ⟨s, e0, _, hs⟩ := DataW.trod_string Try.underlying9 h0
 obtain ⟨k, e1, _, _⟩ := DataW.trod_int Try.underlying29 h1
 obtain ⟨b, e2, _⟩ := DataW.trod_bool Try.underlying4 h2
 simp only [List.cons.injEq, and_true] at e0 e1 e2
 subst e0 e1 e2
 exact ⟨⟨s, k, b⟩, rfl, hs⟩
theorem cellsS_value : Try.prog.cellsOf 31 = 3 := by kernel_rfl
theorem cellsS_col : Try.prog.cellsOf 103 = 3 := by kernel_rfl
set_option maxRecDepth 100000 in
theorem rowS_cells {W : World} {fuel : Nat} {cs : List Value} {y : DataW H × List MemPlace} (hf : DataW.trod enc Try.prog W 0 (fun _ => true) true fuel 26 cs = some y) :
  ∃ (a : Option Addr) (cap : Nat) (l : List Vv), cs = [.slice a l.length cap] ∧ VvAt W.heap.size W a l ∧ l.length ≤ cap := by
 rcases open_slice Try.underlying26 hf with ⟨hcs, _⟩ | ⟨x, len, cap', m, n, D, Pl, hcs, _, hl, hm, hmm, _, hi⟩
 ·exact ⟨none, 0, [], hcs, ⟨by simp, .inl rfl⟩, Nat.le_refl _⟩
 ·simp only [if_true] at hmm
  subst hmm
  have hx : ∀ i, i < len → ∃ x' : Vv, W.cell? ((x.add (i * Try.prog.cellsOf 31)).add 0) = some (.int .i64 x'.k) ∧ W.cell? ((x.add (i * Try.prog.cellsOf 31)).add 1) = some (.int .i64 x'.n) ∧ W.cell? ((x.add (i * Try.prog.cellsOf 31)).add 2) = some (.string x'.s) := fun i hilt => by
   obtain ⟨cs', hc, ht⟩ := hi i (by omega)
   obtain ⟨_, hcl, hat⟩ := World.cells?_some hc
   obtain ⟨x', e, _⟩ := valueS_cells ht (hcl.trans cellsS_value)
   subst e
   exact ⟨x', hat 0 (by rw [cellsS_value]; decide), hat 1 (by rw [cellsS_value]; decide), hat 2 (by rw [cellsS_value]; decide)⟩
  obtain ⟨f, hfun⟩ := choose_lt hx
  rw [cellsS_value] at hfun
  have hlen : ((List.range len).map f).length = len := by simp
  have hget : ∀ i, i < len → ((List.range len).map f).getD i default = f i := fun i hilt => by simp [List.getD, hilt]
  refine ⟨some x, m, (List.range len).map f, by rw [hlen]; exact hcs, ⟨by rw [hlen]; unfold maxLen at hm; omega, ?_⟩, by rw [hlen]; exact hl⟩
  by_cases h0 : len = 0
  ·left; subst h0; rfl
  ·right
   have hp : x = ⟨x.block, x.off, none⟩ := cellS_plain (W := W) (v := .int .i64 (f 0).k) (by have := (hfun 0 (by omega)).1; simpa [Addr.add] using this)
   have hc0 := (hfun 0 (by omega)).1
   rw [hp] at hc0
   refine ⟨x.block, x.off, by rw [← hp], blockS_of_cell hc0, fun i hilt => ?_⟩
   rw [hlen] at hilt
   rw [hget i hilt]
   have := hfun i hilt
   rw [hp] at this
   simpa only [addS_plain, Nat.add_zero] using this
set_option maxRecDepth 100000 in
theorem colsS_cells {W : World} {fuel : Nat} {cs : List Value} {y : DataW H × List MemPlace} (hf : DataW.trod enc Try.prog W 0 (fun _ => true) true fuel 22 cs = some y) :
  ∃ (a : Option Addr) (cap : Nat) (l : List Cl), cs = [.slice a l.length cap] ∧ ColsAt W.heap.size W a l ∧ l.length ≤ cap ∧ ∀ i, i < l.length → (l.getD i default).n.size ≤ 9223372036854775807 := by
 rcases open_slice Try.underlying22 hf with ⟨hcs, _⟩ | ⟨x, len, cap', m, n, D, Pl, hcs, _, hl, hm, hmm, _, hi⟩
 ·exact ⟨none, 0, [], hcs, ⟨by simp, .inl rfl⟩, Nat.le_refl _, fun i hi => by simp at hi⟩
 ·simp only [if_true] at hmm
  subst hmm
  have hx : ∀ i, i < len → ∃ x' : Cl, x'.n.size ≤ maxLen ∧ W.cell? ((x.add (i * Try.prog.cellsOf 103)).add 0) = some (.string x'.n) ∧ W.cell? ((x.add (i * Try.prog.cellsOf 103)).add 1) = some (.int .i64 x'.k) ∧ W.cell? ((x.add (i * Try.prog.cellsOf 103)).add 2) = some (.bool x'.b) := fun i hilt => by
   obtain ⟨cs', hc, ht⟩ := hi i (by omega)
   obtain ⟨_, hcl, hat⟩ := World.cells?_some hc
   obtain ⟨x', e, hs⟩ := colS_cells ht (hcl.trans cellsS_col)
   subst e
   exact ⟨x', hs, hat 0 (by rw [cellsS_col]; decide), hat 1 (by rw [cellsS_col]; decide), hat 2 (by rw [cellsS_col]; decide)⟩
  obtain ⟨f, hfun⟩ := choose_lt hx
  rw [cellsS_col] at hfun
  have hlen : ((List.range len).map f).length = len := by simp
  have hget : ∀ i, i < len → ((List.range len).map f).getD i default = f i := fun i hilt => by simp [List.getD, hilt]
  refine ⟨some x, m, (List.range len).map f, by rw [hlen]; exact hcs, ⟨by rw [hlen]; unfold maxLen at hm; omega, ?_⟩, by rw [hlen]; exact hl, fun i hi => ?_⟩
  ·by_cases h0 : len = 0
   ·left; subst h0; rfl
   ·right
    have hp : x = ⟨x.block, x.off, none⟩ := cellS_plain (W := W) (v := .string (f 0).n) (by have := (hfun 0 (by omega)).2.1; simpa [Addr.add] using this)
    have hc0 := (hfun 0 (by omega)).2.1
    rw [hp] at hc0
    refine ⟨x.block, x.off, by rw [← hp], blockS_of_cell hc0, fun i hilt => ?_⟩
    rw [hlen] at hilt
    rw [hget i hilt]
    have := (hfun i hilt).2
    rw [hp] at this
    simpa only [addS_plain, Nat.add_zero] using this
  ·rw [hlen] at hi
   rw [hget i hi]
   have := (hfun i hi).1
   unfold maxLen at this
   omega
set_option maxRecDepth 100000 in
theorem open_row6 {W : World} {b0 : Nat} {v : Value} {d : DataW H} {p : List MemPlace} (hv : Value.okWide Try.prog W .any b0 26 v) (h : DataW.Trod enc Try.prog W 0 (fun _ => true) true 26 v d p) :
  ∃ (a : Option Addr) (cap : Nat) (l : List Vv), v = .slice a l.length cap ∧ VvAt W.heap.size W a l ∧ l.length ≤ cap := by
 obtain ⟨a, len, cap, rfl⟩ := okWide_slice Try.underlying26 hv
 obtain ⟨fuel, hf⟩ := h
 obtain ⟨a', cap', l, e, hr⟩ := rowS_cells hf
 simp only [Value.cells, List.cons.injEq, and_true] at e
 exact ⟨a', cap', l, e, hr⟩
set_option maxRecDepth 100000 in
theorem open_table6 {W : World} {b0 : Nat} {v : Value} {d : DataW H} {p : List MemPlace} (hv : Value.okWide Try.prog W .any b0 24 v) (h : DataW.Trod enc Try.prog W 0 (fun _ => true) true 24 v d p) :
  ∃ (N : ByteArray) (a : Option Addr) (cap : Nat) (l : List Cl) (K : Int), v = .agg #[.string N, .slice a l.length cap, .int .i64 K] ∧ N.size ≤ 9223372036854775807 ∧ ColsAt W.heap.size W a l ∧ l.length ≤ cap ∧ ∀ i, i < l.length → (l.getD i default).n.size ≤ 9223372036854775807 := by
 obtain ⟨c0, c1, c2, y0, y1, y2, m, rfl, rfl, rfl, hy0, hy1, hy2⟩ := open_agg3 Try.underlying24 (by kernel_rfl) (by kernel_rfl) hv h
 obtain ⟨s, e0, _, hs⟩ := DataW.trod_string Try.underlying9 hy0
 obtain ⟨a, cap, l, e1, hc⟩ := colsS_cells hy1
 obtain ⟨n, e2, _, wn⟩ := DataW.trod_int Try.underlying3 hy2
 simp only [List.cons.injEq, and_true] at e0 e1 e2
 subst e0 e1 e2
 exact ⟨s, a, cap, l, n, rfl, by unfold maxLen at hs; omega, hc⟩
end
end Go.Proofs.Ytfambadamebjjaa
