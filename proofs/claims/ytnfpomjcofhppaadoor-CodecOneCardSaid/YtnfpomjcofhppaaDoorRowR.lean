/- The contract of the reader's row. -/
import Derived.Test.YtnfpomjcofhppaaDoorValR
import Derived.Maps.AppendAt
namespace Go.Proofs.YtnfpomjcofhppaaDoor
open Go.RowKit

theorem readR_count (l : List UInt8) : readR l = match readC 255 l with | none => none | some (n, k) => (readVs n (l.drop k)).map fun x => (x.1, k + x.2) := by
  unfold readR readC
  cases hn : readN l with
  | none => rfl
  | some x =>
    obtain ⟨n, k⟩ := x
    simp only
    by_cases h1 : n ≤ 255
    · by_cases h2 : n ≤ l.length - k
      · rw [if_pos h1, if_pos ⟨h1, h2⟩]
      · rw [if_pos h1, if_neg (fun h => h2 h.2)]
        cases hv : readVs n (l.drop k) with
        | none => rfl
        | some y =>
          obtain ⟨vs, j⟩ := y
          have := readVs_some _ _ _ _ hv
          rw [List.length_drop] at this
          omega
    · rw [if_neg h1, if_neg (fun h => h1 h.1)]
theorem readL_count (l : List UInt8) (hl : l.length ≤ 9223372036854775807) : readL l = match readC 9223372036854775807 l with | none => none | some (n, k) => (readRs n (l.drop k)).map fun x => (x.1, k + x.2) := by
  unfold readL readC
  cases hn : readN l with
  | none => rfl
  | some x =>
    obtain ⟨n, k⟩ := x
    simp only
    by_cases h2 : n ≤ l.length - k
    · rw [if_pos ⟨by omega, h2⟩]
    · rw [if_neg (fun h => h2 h.2)]
      cases hv : readRs n (l.drop k) with
      | none => rfl
      | some y =>
        obtain ⟨vs, j⟩ := y
        have := readRs_some _ _ _ _ hv
        rw [List.length_drop] at this
        omega
/-- A value's three cells. -/
def vC (x : Vl) : List Value := [.int .i64 x.k, .int .i64 x.n, .string x.s]
/-- A slice of values made since B. -/
def OwnV (B : Nat) (w : World) (v : Value) (l : List Vl) : Prop := w.ownsRow B 30 3 v l.length (l.flatMap vC)
theorem OwnV.nil (B : Nat) (w : World) : OwnV B w (.slice none 0 0) [] := World.ownsRow_nil w _ _ _
theorem val_info : (Tryd.prog.info? 30).map (fun i => (i.zero, i.size, i.bytes)) = some (some (.agg #[.int .i64 0, .int .i64 0, .string ⟨#[]⟩]), 3, 32) := by kernel_rfl
theorem OwnV.more {B : Nat} {w : World} {v : Value} {l : List Vl} {x : Vl} {news : List Value} (hx : news = vC x) (h : w.ownsRow B 30 3 v (l.length + 1) (l.flatMap vC ++ news)) : OwnV B w v (l ++ [x]) := by
  unfold OwnV
  rw [List.length_append, List.flatMap_append, List.flatMap_cons, List.flatMap_nil, List.append_nil, ← hx]
  exact h
theorem OwnV.apart {B g : Nat} {w : World} {v : Value} {l : List Vl} (h : OwnV B w v l) (hg : g < B) : v.ownBlock = none ∨ v.ownBlock ≠ some g := by
  cases hv : v.ownBlock with
  | none => exact .inl rfl
  | some k => exact .inr (fun e => by have := (World.ownsRow.lt h k hv).1; cases e; omega)
theorem OwnV.keep {B g : Nat} {w w' : World} {v : Value} {l : List Vl} (h : OwnV B w v l) (hgr : w.grownBy w' (some g)) (hg : g < B) : OwnV B w' v l := World.ownsRow.kept h hgr (h.apart hg)
theorem grown_then {a b c : World} {row row' : Option Nat} (h : a.grownBy b row) (k : b.grownBy c row') (hr : ∀ j, row' = some j → a.heap.size ≤ j) : a.grownBy c row :=
  ⟨k.os.trans h.os, k.tape.trans h.tape, k.output.trans h.output, Nat.le_trans h.size k.size, fun i hi hne => (k.block i (Nat.lt_of_lt_of_le hi h.size) (fun e => by have := hr i e.symm; omega)).trans (h.block i hi hne)⟩
theorem Rd.far {g : Nat} {a : Option Addr} {len cap p : Nat} {w w' : World} {row : Option Nat} (h : Rd g a len cap p w) (hg : w.grownBy w' row) (hne : row = none ∨ row ≠ some g) : Rd g a len cap p w' := by
  have := hg.block g h.cells.2.2.2 (by rcases hne with e | e; rw [e]; simp; exact fun h => e h.symm)
  exact this.trans h
theorem Goes.far {g : Nat} {a : Option Addr} {len cap p : Nat} {w w1 w2 : World} {row : Option Nat} (h : Goes g a len cap w p w1) (hg : w1.grownBy w2 row) (hr : ∀ j, row = some j → w.heap.size ≤ j) (hlt : g < w.heap.size) : Goes g a len cap w p w2 :=
  ⟨grown_then h.1 hg hr, h.2.far hg (by
    cases hrow : row with
    | none => exact .inl rfl
    | some j => exact .inr (fun e => by have := hr j hrow; cases e; omega))⟩
/-- How far values are read. -/
def Vup (l : List UInt8) (q0 n i q : Nat) (cur : List Vl) : Prop := readVs n (l.drop q0) = (readVs (n - i) (l.drop q)).map (fun x => (cur ++ x.1, (q - q0) + x.2)) ∧ q0 ≤ q ∧ q ≤ l.length ∧ cur.length = i
theorem Vup.start (l : List UInt8) (q0 n : Nat) (h : q0 ≤ l.length) : Vup l q0 n 0 q0 [] := by
  refine ⟨?_, Nat.le_refl _, h, rfl⟩
  cases readVs n (l.drop q0) <;> simp [*]
theorem Vup.none {l : List UInt8} {q0 n i q : Nat} {cur : List Vl} (h : Vup l q0 n i q cur) (hi : i < n) (hv : readV (l.drop q) = Option.none) : readVs n (l.drop q0) = Option.none := by
  obtain ⟨m, hm⟩ : ∃ m, n - i = m + 1 := ⟨n - i - 1, by omega⟩
  rw [h.1, hm, readVs, hv]; rfl
theorem Vup.step {l : List UInt8} {q0 n i q k : Nat} {cur : List Vl} {v : Vl} (h : Vup l q0 n i q cur) (hi : i < n) (hv : readV (l.drop q) = some (v, k)) : Vup l q0 n (i + 1) (q + k) (cur ++ [v]) := by
  obtain ⟨h1, h2, h3, h4⟩ := h
  obtain ⟨m, hm⟩ : ∃ m, n - i = m + 1 := ⟨n - i - 1, by omega⟩
  have hk := (readV_some hv).2.2.1
  rw [List.length_drop] at hk
  refine ⟨?_, by omega, by omega, by simp [h4]⟩
  rw [h1, hm, readVs, hv, show n - (i + 1) = m from by omega]
  simp only [Option.map_map, List.drop_drop]
  congr 1
  funext x
  simp only [Function.comp, List.append_assoc, List.singleton_append]
  congr 1
  omega
theorem Vup.done {l : List UInt8} {q0 n q : Nat} {cur : List Vl} (h : Vup l q0 n n q cur) : readVs n (l.drop q0) = some (cur, q - q0) := by
  rw [h.1, Nat.sub_self, readVs]; simp
/-- What row answers: new memory. -/
def RowPost (g : Nat) (a : Option Addr) (len cap p : Nat) (w : World) (r : Option (List Vl × Nat)) (e : Ending) (w' : World) : Prop :=
  (∀ vs k, r = some (vs, k) → ∃ v, e = .returned (.tuple #[v, .nilIface]) ∧ OwnV w.heap.size w' v vs ∧ Goes g a len cap w (p + k) w') ∧ (r = none → ∃ x q, e = .returned (.tuple #[.slice none 0 0, x]) ∧ Flaw x ∧ Goes g a len cap w q w')

theorem vC_one (v : Vl) : ∀ u ∈ vC v, u.oneCell' = true := by
  intro u hu
  simp only [vC, List.mem_cons, List.not_mem_nil, or_false] at hu
  rcases hu with rfl | rfl | rfl <;> rfl
theorem vC_new (w : World) (o : Obj) (v : Vl) (T : TypeId) : ∀ j u, (vC v)[j]? = some u → ((w.alloc o).alloc (.cells #[.int .i64 v.k, .int .i64 v.n, .string v.s] T)).cell? ((⟨w.heap.size + 1, 0, none⟩ : Addr).add j) = some u := by
  intro j u hj
  have e := heap_alloc_new (w.alloc o) (.cells #[.int .i64 v.k, .int .i64 v.n, .string v.s] T)
  have hs : (w.alloc o).heap.size = w.heap.size + 1 := by simp
  rw [hs] at e
  rw [add_at]
  match j, hj with
  | 0, hj => simp [vC] at hj; subst hj; exact cell_of_row _ _ 0 _ _ _ e
  | 1, hj => simp [vC] at hj; subst hj; exact cell_of_row _ _ 1 _ _ _ e
  | 2, hj => simp [vC] at hj; subst hj; exact cell_of_row _ _ 2 _ _ _ e
  | n + 3, hj => simp [vC] at hj

set_option maxRecDepth 100000 in
set_option maxHeartbeats 3200000 in
theorem rrow_any (G g : Nat) (a : Option Addr) (l : List UInt8) (cap p : Nat) (w : World) (hR : Rd g a l.length cap p w) (hb : BAt g w a l) (hp : p ≤ l.length) (hS : Sent G w) (hG : G ≤ g) (hcap : l.length ≤ cap) (hcapm : cap ≤ 9223372036854775807) :
    Calls Tryd.prog 24 #[.pointer (some ⟨g, 0, none⟩)] w (RowPost g a l.length cap p w (readR (l.drop p))) := by
  have hgs := hR.cells.2.2.2
  have HN := Lib.hid (count_any G g a l cap p 255 w hR hb hp hS hG (by omega))
  have HV := Lib.hid (fun q w1 (h : w.grownBy w1 (some g)) (hr : Rd g a l.length cap q w1) (hq : q ≤ l.length) => value_any4 G g a l cap q w1 hr (hb.keep h (by simp)) hq (hS.keep h hG) hG hcap hcapm)
  rw [readR_count]
  cases hr : readC 255 (l.drop p) with
  | none =>
    have Hr := Lib.hid hr
    clear hr hS hR hb
    go_enter Tryd.func24, Tryd.ntmps24
    go_wp2_with fail
    refine HN.out.mono ?_
    rintro e w1 ⟨_, h2⟩
    obtain ⟨x, q, rfl, ⟨y, t9, q9, rfl⟩, K⟩ := h2 Hr.out
    clear HN
    go_wp2_with fail
    go_ret2
    exact ⟨fun _ _ h => (by cases h), fun _ => ⟨_, _, rfl, ⟨_, _, _, rfl⟩, K⟩⟩
  | some x =>
    obtain ⟨n, k⟩ := x
    obtain ⟨_, hn1, hn2, hk1⟩ := readC_some hr
    rw [List.length_drop] at hn2
    have HC : Hid (∀ e w1, CountPost g a l.length cap p w (readC 255 (l.drop p)) e w1 → e = .returned (.tuple #[.int .i64 n, .nilIface]) ∧ Goes g a l.length cap w (p + k) w1) := Lib.hid fun e w1 h => h.1 n k hr
    simp only [List.drop_drop]
    have hU : Hid (Vup l (p + k) n 0 (p + k) []) := Lib.hid (Vup.start l (p + k) n (by omega))
    obtain ⟨q0, hq0⟩ : ∃ q0, q0 = p + k := ⟨_, rfl⟩
    rw [← hq0] at HC hU ⊢
    have Hq0 := Lib.hid hq0
    obtain ⟨r, hr0⟩ : ∃ r, r = readVs n (l.drop q0) := ⟨_, rfl⟩
    rw [← hr0]
    have Hr := Lib.hid hr0
    obtain ⟨i0, hi, hz0, hz1, hz2⟩ := info_parts val_info
    clear hr hS hR hb hn2 hq0 hr0
    go_enter Tryd.func24, Tryd.ntmps24
    go_wp2_with fail
    refine HN.out.mono ?_
    rintro e w1 hpost
    obtain ⟨rfl, K⟩ := HC.out _ _ hpost
    have HK := Lib.hid K
    clear hpost K
    go_wp2_with fail
    go_loopw [6, 18] (fun v i wr => ∃ (j q : Nat) (cur : List Vl), i = .int .i64 j ∧ j ≤ n ∧ cur.length ≤ n ∧ q ≤ l.length ∧ Hid (Vup l q0 n j q cur) ∧ Hid (OwnV w.heap.size wr v cur) ∧ Hid (Goes g a l.length cap w q wr)) (fun _ i _ => n - (intOf i).toNat)
    case atStart => exact ⟨0, q0, [], rfl, Nat.zero_le _, Nat.zero_le _, hU.out.2.2.1, hU, Lib.hid (OwnV.nil _ _), HK⟩
    case round =>
      obtain ⟨j, q, cur, rfl, hj, hcl, hql, U, O, K⟩ := hrel
      by_cases hlt : j < n
      · cases hv : readV (l.drop q) with
        | none =>
          have Hno : Hid (r = none) := Lib.hid (by rw [Hr.out]; exact U.out.none hlt hv)
          have Hv := Lib.hid hv
          clear hv
          go_wp2_with fail
          refine (HV.out _ _ K.out.1 K.out.2 hql).mono ?_
          rintro e w2 ⟨_, h2⟩
          obtain ⟨vk, vn, vs, x, q2, rfl, ⟨y, t9, q9, rfl⟩, K2⟩ := h2 Hv.out
          have HK2 := Lib.hid (K.out.trans K2)
          clear h2 K2
          go_wp2_with fail
          go_ret2
          exact ⟨fun _ _ h => (by rw [Hno.out] at h; cases h), fun _ => ⟨_, _, rfl, ⟨_, _, _, rfl⟩, HK2.out.far (World.grownBy_alloc _ _ none) (by simp) hgs⟩⟩
        | some x =>
          obtain ⟨v, kv⟩ := x
          have U2 := Lib.hid (U.out.step hlt hv)
          have Hv := Lib.hid hv
          have hcn : (cur ++ [v]).length ≤ n := by have := U2.out.2.2.2; omega
          have hq2 : q + kv ≤ l.length := U2.out.2.2.1
          clear hv
          go_wp2_with fail
          refine (HV.out _ _ K.out.1 K.out.2 hql).mono ?_
          rintro e w2 ⟨h1, _⟩
          obtain ⟨rfl, K2⟩ := h1 v kv Hv.out
          have HK2 := Lib.hid (K.out.trans K2)
          have O2 := Lib.hid (O.out.keep K2.1 hgs)
          have hs2 : w.heap.size ≤ w2.heap.size := HK2.out.1.size
          clear h1 K2
          go_wp2_with (at_builtin; refine wpList_append_own _ rfl _ _ 43 rfl w.heap.size 30 i0 (.agg #[.int .i64 0, .int .i64 0, .string ⟨#[]⟩]) 3 32 Tryd.underlying43 hi hz0 hz1 hz2 rfl (by decide) _ _ _ rfl (World.ownsRow.alloc (World.ownsRow.alloc O2.out _) _) ⟨w2.heap.size + 1, 0, none⟩ 1 1 (vC v) rfl rfl ?c1 ?c2 ?c3 ?c4 ?c5 ?_)
          case c1 => exact vC_new w2 _ v _
          case c2 => exact vC_one v
          case c3 => unfold maxLen; omega
          case c4 => omega
          case c5 => simp; omega
          intro v' w3 hown' hgrow _
          have O3 := Lib.hid (OwnV.more (x := v) rfl hown')
          have HK3 := Lib.hid (HK2.out.far ((World.grownBy_alloc w2 (.cells #[.int .i64 v.k, .int .i64 v.n, .string v.s] 30) _).trans ((World.grownBy_alloc _ (.cells #[.int .i64 v.k, .int .i64 v.n, .string v.s] 30) _).trans hgrow)) (fun j hj => (World.ownsRow.lt O2.out j hj).1) hgs)
          clear hown' hgrow
          go_wp2_with fail
          go_roundw
          case rel => exact ⟨j + 1, q + kv, cur ++ [v], by go_num, by omega, hcn, hq2, U2, O3, HK3⟩
          case measure => simp [intOf]; omega
      · obtain rfl : j = n := by omega
        have Hyes : Hid (r = some (cur, q - q0)) := Lib.hid (by rw [Hr.out]; exact U.out.done)
        go_wp2_with fail
        go_ret2
        refine ⟨fun vs m h => ?_, fun h => (by rw [Hyes.out] at h; cases h)⟩
        rw [Hyes.out] at h
        simp only [Option.map_some, Option.some.injEq, Prod.mk.injEq] at h
        obtain ⟨rfl, rfl⟩ := h
        refine ⟨_, rfl, O.out, ?_⟩
        have e : p + (k + (q - q0)) = q := by have := U.out.2.1; rw [Hq0.out] at this ⊢; omega
        rw [e]
        exact K.out
end Go.Proofs.YtnfpomjcofhppaaDoor
