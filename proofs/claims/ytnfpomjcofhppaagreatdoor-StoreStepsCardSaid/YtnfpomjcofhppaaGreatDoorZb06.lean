/- slices.Clone at a row, and tree's top. Contracts of schema's holds, fit and Row. What schema's full, malformed and Check answer where a table is wrong. -/
import Derived.Test.YtnfpomjcofhppaaGreatDoorZb05
import Derived.Lib.SliceRun
import Derived.Test.YtnfpomjcofhppaaGreatDoorZb02
import Derived.Test.YtnfpomjcofhppaaGreatDoorZb01
import Derived.BigQuiet
namespace Go.Proofs.YtnfpomjcofhppaaGreatDoor
open Go.RowKit

def vCT (x : Vl) : List Value := [.int .i64 x.k, .int .i64 x.n, .string x.s]
theorem add_atT (g o j : Nat) : (⟨g, o, none⟩ : Addr).add j = ⟨g, o + j, none⟩ := by
  unfold Addr.add
  split
  · subst_vars; rfl
  · rfl
theorem vCT_one (l : List Vl) : ∀ u ∈ l.flatMap vCT, u.oneCell' = true := by
  intro u hu
  rw [List.mem_flatMap] at hu
  obtain ⟨x, _, hu⟩ := hu
  simp only [vCT, List.mem_cons, List.not_mem_nil, or_false] at hu
  rcases hu with rfl | rfl | rfl <;> rfl
theorem vCT_len (l : List Vl) : (l.flatMap vCT).length = l.length * 3 := by
  induction l with
  | nil => rfl
  | cons x l ih => rw [List.flatMap_cons, List.length_append, ih]; simp [vCT]; omega
theorem vCT_at (l : List Vl) : ∀ i, i < l.length → (l.flatMap vCT)[i * 3]? = some (.int .i64 (l.getD i default).k) ∧ (l.flatMap vCT)[i * 3 + 1]? = some (.int .i64 (l.getD i default).n) ∧ (l.flatMap vCT)[i * 3 + 2]? = some (.string (l.getD i default).s) := by
  induction l with
  | nil => intro i hi; simp at hi
  | cons x l ih =>
    intro i hi
    rw [List.flatMap_cons]
    match i, hi with
    | 0, _ => exact ⟨rfl, rfl, rfl⟩
    | i + 1, hi =>
      have := ih i (by simpa using hi)
      have e : ∀ o, (vCT x ++ l.flatMap vCT)[(i + 1) * 3 + o]? = (l.flatMap vCT)[i * 3 + o]? := fun o => by
        rw [List.getElem?_append_right (by simp [vCT]; omega)]
        congr 1
        simp [vCT]
        omega
      have e0 := e 0
      simp only [Nat.add_zero] at e0
      rw [e0, e 1, e 2]
      simpa [List.getD] using this
theorem vl_cells {w : World} {b off : Nat} {r : List Vl} (hc : ∀ i, i < r.length → w.cell? ⟨b, off + i * 3, none⟩ = some (.int .i64 (r.getD i default).k) ∧ w.cell? ⟨b, off + i * 3 + 1, none⟩ = some (.int .i64 (r.getD i default).n) ∧ w.cell? ⟨b, off + i * 3 + 2, none⟩ = some (.string (r.getD i default).s)) :
    ∀ n i, i + n = r.length → ∀ j u, ((r.drop i).flatMap vCT)[j]? = some u → w.cell? ((⟨b, off + i * 3, none⟩ : Addr).add j) = some u
  | 0, i, hi, j, u, hj => by rw [List.drop_of_length_le (by omega)] at hj; simp at hj
  | n + 1, i, hi, j, u, hj => by
    have hd : r.drop i = r.getD i default :: r.drop (i + 1) := by rw [List.drop_eq_getElem_cons (by omega)]; simp [List.getD, show i < r.length by omega]
    rw [hd, List.flatMap_cons] at hj
    have h3 := hc i (by omega)
    rw [add_atT]
    match j, hj with
    | 0, hj => simp [vCT] at hj; subst hj; exact h3.1
    | 1, hj => simp [vCT] at hj; subst hj; exact h3.2.1
    | 2, hj => simp [vCT] at hj; subst hj; exact h3.2.2
    | j + 3, hj =>
      have := vl_cells hc n (i + 1) (by omega) j u (by rw [List.getElem?_append_right (by simp [vCT])] at hj; simpa [vCT] using hj)
      rw [add_atT] at this
      rw [show off + i * 3 + (j + 3) = off + (i + 1) * 3 + j by omega]
      exact this
theorem val_infoT : (Tryz.prog.info? 74).map (fun i => (i.zero, i.size, i.bytes)) = some (some (.agg #[.int .i64 0, .int .i64 0, .string ⟨#[]⟩]), 3, 32) := by kernel_rfl
theorem info_partsT {o : Option TypeInfo} {z : Value} {s b : Nat} (h : o.map (fun i => (i.zero, i.size, i.bytes)) = some (some z, s, b)) : ∃ i, o = some i ∧ i.zero = some z ∧ i.size = s ∧ i.bytes = b := by
  cases o with
  | none => cases h
  | some i => simp at h; exact ⟨i, rfl, h.1, h.2.1, h.2.2⟩
theorem own_madeT (B g : Nat) (w : World) (T : TypeId) (n : Nat) (hg : g = w.heap.size) (hB : B ≤ w.heap.size) : (w.alloc (.cells #[] T)).ownsRow B T n (.slice (some ⟨g, 0, none⟩) 0 0) 0 [] := by
  subst hg
  exact ⟨by simp, .inr ⟨w.heap.size, 0, #[], rfl, hB, heap_alloc_new _ _, Nat.le_refl _, Nat.zero_le _, by simp, by simp⟩⟩
theorem grown_thenT {a b c : World} {row row' : Option Nat} (h : a.grownBy b row) (k : b.grownBy c row') (hr : ∀ j, row' = some j → a.heap.size ≤ j) : a.grownBy c row :=
  ⟨k.os.trans h.os, k.tape.trans h.tape, k.output.trans h.output, Nat.le_trans h.size k.size, fun i hi hne => (k.block i (Nat.lt_of_lt_of_le hi h.size) (fun e => by have := hr i e.symm; omega)).trans (h.block i hi hne)⟩
/-- A row of one's own lies in S. -/
theorem own_rw {S : Nat → Prop} {B : Nat} {w : World} {v : Value} {l : List Vl} (h : w.ownsRow B 74 3 v l.length (l.flatMap vCT)) (hS : ∀ b, B ≤ b → S b) (hl : l.length ≤ 4294967296) (hs : ∀ x ∈ l, x.s.size ≤ maxLen) : ∃ a cap, v = .slice a l.length cap ∧ RwS S w a l := by
  rcases h.2 with ⟨hv, h0⟩ | ⟨g, cap, cur, hv, hb, hg, _⟩
  · exact ⟨none, 0, by rw [hv, h0], hl, hs, .inl (List.eq_nil_of_length_eq_zero h0)⟩
  · have hlt := (h.lt g (by rw [hv]; rfl)).2
    refine ⟨some ⟨g, 0, none⟩, cap, hv, hl, hs, .inr ⟨g, 0, rfl, hS g hb, hlt, fun i hi => ?_⟩⟩
    have c := h.cells (g := g) (by rw [hv]; rfl)
    have k := vCT_at l i hi
    have c0 := c _ _ k.1
    have c1 := c _ _ k.2.1
    have c2 := c _ _ k.2.2
    rw [add_atT] at c0 c1 c2
    exact ⟨c0, c1, c2⟩
set_option maxRecDepth 100000 in
set_option maxHeartbeats 1600000 in
theorem clone_any (S : Nat → Prop) (a : Option Addr) (cap : Nat) (l : List Vl) (w : World) (h : RowAt w a l) (hl : l.length ≤ 4294967296) (hS : ∀ b, w.heap.size ≤ b → S b) :
    Calls Tryz.prog 68 #[.slice a l.length cap] w fun e w' => (∃ a' cap', e = .returned (.slice a' l.length cap') ∧ ((a' = none → cap' = 0) ∧ l.length ≤ cap') ∧ RwS S w' a' l) ∧ w.grownBy w' none := by
  cases a with
  | none =>
    obtain rfl : l = [] := by
      rcases h.2.2 with h | ⟨b, off, e, _⟩
      · exact h
      · cases e
    have hE : ∀ w, (binOp .eql 55 (.slice none 0 cap) (.slice none 0 0)).run Tryz.prog w = .ok (.bool true) w := fun w => Lib.run_eql_slice_nil w _ _ _ _ _ _ _ Tryz.underlying55
    clear h hS hl
    go_enter Tryz.func68, Tryz.ntmps68
    go_wp2_with fail
    go_ret
    exact ⟨⟨none, 0, rfl, ⟨fun _ => rfl, Nat.le_refl _⟩, by simp, by simp, .inl rfl⟩, grown_reflT _ _⟩
  | some ad =>
    have HC : Hid (∀ W, w.grownBy W none → ∀ j u, (l.flatMap vCT)[j]? = some u → W.cell? (ad.add j) = some u) := Lib.hid fun W hW j u hj => by
      rcases h.2.2 with h0 | ⟨b, off, e, hlt, hc⟩
      · rw [h0] at hj; simp at hj
      · cases e
        have := vl_cells (w := W) (b := b) (off := off) (r := l) (fun i hi => ⟨hW.cell (hc i hi).1 (by simp), hW.cell (hc i hi).2.1 (by simp), hW.cell (hc i hi).2.2 (by simp)⟩) l.length 0 (by omega) j u (by simpa using hj)
        simpa using this
    have Hs := Lib.hid h.2.1
    have HL := Lib.hid (vCT_len l)
    obtain ⟨m, hm⟩ : ∃ m, m = l.length := ⟨_, rfl⟩
    have Hm := Lib.hid hm
    rw [← hm] at HL hl ⊢
    clear h hm
    obtain ⟨i0, hi, hz0, hz1, hz2⟩ := info_partsT val_infoT
    have hE : ∀ w, (binOp .eql 55 (.slice (some ad) m cap) (.slice none 0 0)).run Tryz.prog w = .ok (.bool false) w := fun w => Lib.run_eql_slice_nil w _ _ _ _ _ _ _ Tryz.underlying55
    go_enter Tryz.func68, Tryz.ntmps68
    go_wp2_with (at_builtin; refine wpList_append_own _ rfl _ _ 55 rfl w.heap.size 74 i0 (.agg #[.int .i64 0, .int .i64 0, .string ⟨#[]⟩]) 3 32 Tryz.underlying55 hi hz0 hz1 hz2 rfl (by decide) _ 0 [] rfl (own_madeT _ _ w _ _ rfl (Nat.le_refl _)) ad m cap (l.flatMap vCT) rfl HL.out ?c1 ?c2 ?c3 ?c4 ?c5 ?_)
    case c1 => exact HC.out _ (World.grownBy_alloc _ _ _)
    case c2 => exact vCT_one _
    case c3 => unfold maxLen; omega
    case c4 => omega
    case c5 => simp
    intro v' w3 hown' hgrow _
    have K3 := Lib.hid (grown_thenT (World.grownBy_alloc w _ none) hgrow (by intro j hj; simp [Value.ownBlock] at hj; omega))
    have O3 := Lib.hid (show w3.ownsRow w.heap.size 74 3 v' l.length (l.flatMap vCT) by rw [← Hm.out]; simpa using hown')
    clear hown' hgrow
    go_wp2_with fail
    go_ret
    obtain ⟨a', cap', hv, hr⟩ := own_rw O3.out hS (by rw [← Hm.out]; exact hl) Hs.out
    rw [← Hm.out] at hv
    refine ⟨⟨a', cap', congrArg Ending.returned hv, ⟨fun ha => ?_, ?_⟩, hr⟩, K3.out⟩
    · subst ha
      rcases O3.out.2 with ⟨e, _⟩ | ⟨g, cc, cur, e, _⟩
      · rw [e] at hv; cases hv; rfl
      · rw [e] at hv; cases hv
    · rcases O3.out.2 with ⟨_, h0⟩ | ⟨g, cc, cur, e, _, _, hc, _⟩
      · have := Hm.out; omega
      · rw [e] at hv
        have h3 := (Value.slice.inj hv).2.2
        have h4 := Hm.out
        omega
end Go.Proofs.YtnfpomjcofhppaaGreatDoor
namespace Go.Proofs.YtnfpomjcofhppaaGreatDoor
open Go.RowKit

theorem grown_below6 {w w' : World} (h : Below w.heap.size w w') (row : Option Nat) : w.grownBy w' row := ⟨h.os, h.tape, h.output, h.size, fun i hi _ => h.block i hi⟩
/-- A value of a row. -/
structure Vv where
  k : Int
  n : Int
  s : ByteArray
instance : Inhabited Vv := ⟨⟨0, 0, ⟨#[]⟩⟩⟩
def Vv.good (v : Vv) : Bool := goodB v.k v.n v.s
/-- May the column have the value? -/
def holdsB (c : Cl) (v : Vv) : Bool := v.good && (decide (v.k = c.k) || (decide (v.k = 0) && c.b))
set_option maxRecDepth 100000 in
set_option maxHeartbeats 3200000 in
theorem holds_any (c : Cl) (v : Vv) (w : World) :
    Calls Tryz.prog 112 #[.agg #[.string c.n, .int .i64 c.k, .bool c.b], .agg #[.int .i64 v.k, .int .i64 v.n, .string v.s]] w fun e w' => e = .returned (.bool (holdsB c v)) ∧ w.grownBy w' none := by
  obtain ⟨cn, ck, cb⟩ := c
  obtain ⟨vk, vn, vs⟩ := v
  have HG := Lib.hid (fun W => good_any vk vn vs W)
  have hB1 := box3_new6 w (.string cn) (.int .i64 ck) (.bool cb) 114
  have hB2 := box3_new6 (w.alloc (.cells #[.string cn, .int .i64 ck, .bool cb] 114)) (.int .i64 vk) (.int .i64 vn) (.string vs) 74
  have hsz : (w.alloc (.cells #[.string cn, .int .i64 ck, .bool cb] 114)).heap.size = w.heap.size + 1 := by simp
  rw [hsz] at hB2
  have k1 := (World.grownBy_alloc (w.alloc (.cells #[.string cn, .int .i64 ck, .bool cb] 114)) (.cells #[.int .i64 vk, .int .i64 vn, .string vs] 74) none)
  have HB := Lib.hid (And.intro (k1.cell hB1.2.1 (by simp)) (And.intro (k1.cell hB1.2.2 (by simp)) hB2))
  have K0 := Lib.hid ((World.grownBy_alloc w (.cells #[.string cn, .int .i64 ck, .bool cb] 114) none).trans k1)
  clear hB1 hB2 k1 hsz
  unfold holdsB Vv.good
  simp only
  have key : (goodB vk vn vs = false) ∨ (goodB vk vn vs = true ∧ ((vk = ck) ∨ (vk ≠ ck ∧ (vk ≠ 0 ∨ (vk = 0 ∧ (cb = true ∨ cb = false)))))) := by
    cases goodB vk vn vs <;> cases cb <;> simp <;> omega
  rcases key with h | ⟨h, h1 | ⟨h1, h2 | ⟨h2, h3 | h3⟩⟩⟩
  · rw [h] at HG ⊢
    clear h
    go_enter Tryz.func112, Tryz.ntmps112
    go_wp2_with fail
    refine (HG.out _).mono ?_
    rintro e w2 ⟨rfl, hb⟩
    have K2 := Lib.hid (K0.out.trans (grown_below6 hb none))
    clear hb
    go_wp2_with fail
    go_ret
    exact ⟨ret_bool (by simp), K2.out⟩
  · rw [h] at HG ⊢
    subst h1
    clear h
    go_enter Tryz.func112, Tryz.ntmps112
    go_wp2_with fail
    refine (HG.out _).mono ?_
    rintro e w2 ⟨rfl, hb⟩
    have hg := grown_below6 hb none
    have K2 := Lib.hid (K0.out.trans hg)
    obtain ⟨b1, b2, b3, b4, b5⟩ := HB.out
    have d1 := hg.cell b1 (by simp)
    have d2 := hg.cell b2 (by simp)
    have d3 := hg.cell b3 (by simp)
    clear hb b1 b2 b3 b4 b5 hg
    go_wp2_with fail
    go_ret
    exact ⟨ret_bool (by simp), K2.out⟩
  · rw [h] at HG ⊢
    clear h
    go_enter Tryz.func112, Tryz.ntmps112
    go_wp2_with fail
    refine (HG.out _).mono ?_
    rintro e w2 ⟨rfl, hb⟩
    have hg := grown_below6 hb none
    have K2 := Lib.hid (K0.out.trans hg)
    obtain ⟨b1, b2, b3, b4, b5⟩ := HB.out
    have d1 := hg.cell b1 (by simp)
    have d2 := hg.cell b2 (by simp)
    have d3 := hg.cell b3 (by simp)
    have t1 : (vk == ck) = false := beq_eq_false_iff_ne.2 h1
    have t2 : (vk == 0) = false := beq_eq_false_iff_ne.2 h2
    clear hb b1 b2 b3 b4 b5 hg
    go_wp2_with fail
    go_ret
    exact ⟨ret_bool (by simp [h1, h2]), K2.out⟩
  all_goals
    rw [h] at HG ⊢
    subst h2 h3
    clear h
    go_enter Tryz.func112, Tryz.ntmps112
    go_wp2_with fail
    refine (HG.out _).mono ?_
    rintro e w2 ⟨rfl, hb⟩
    have hg := grown_below6 hb none
    have K2 := Lib.hid (K0.out.trans hg)
    obtain ⟨b1, b2, b3, b4, b5⟩ := HB.out
    have d1 := hg.cell b1 (by simp)
    have d2 := hg.cell b2 (by simp)
    have d3 := hg.cell b3 (by simp)
    have t1 : ((0 : Int) == ck) = false := beq_eq_false_iff_ne.2 h1
    clear hb b1 b2 b3 b4 b5 hg
    go_wp2_with fail
    go_ret
    exact ⟨ret_bool (by simp [h1]), K2.out⟩
end Go.Proofs.YtnfpomjcofhppaaGreatDoor
namespace Go.Proofs.YtnfpomjcofhppaaGreatDoor
open Go.RowKit

set_option maxHeartbeats 1600000 in
theorem full_many (num m c : Nat) (N : ByteArray) (a : Option Addr) (K : Int) (ty : TypeId) (p : Value) (w : World) (h6 : 6 ≤ num) (hE : w.cell? ⟨1, 0, none⟩ = some (.iface ty p)) :
    Calls Tryz.prog 72 #[.int .i64 num, .agg #[.string N, .slice a m c, .int .i64 K]] w fun e w' => e = .returned (.iface ty p) ∧ w.grownBy w' none := by
  have h6' : (6 : Int) ≤ num := by omega
  have hE2 : ∀ o, (w.alloc o).cell? ⟨1, 0, none⟩ = some (.iface ty p) := fun o => (World.grownBy_alloc w o none).cell hE (by simp)
  go_enter Tryz.func72, Tryz.ntmps72
  go_wp2_with fail
  go_ret
  exact ⟨rfl, World.grownBy_alloc _ _ _⟩
set_option maxHeartbeats 1600000 in
theorem full_wide (num m c : Nat) (N : ByteArray) (a : Option Addr) (K : Int) (ty : TypeId) (p : Value) (w : World) (h6 : num < 6) (h8 : 8 < m) (hE : w.cell? ⟨2, 0, none⟩ = some (.iface ty p)) :
    Calls Tryz.prog 72 #[.int .i64 num, .agg #[.string N, .slice a m c, .int .i64 K]] w fun e w' => e = .returned (.iface ty p) ∧ w.grownBy w' none := by
  have h6' : (num : Int) < 6 := by omega
  have h1' : ((m : Int) == 0) = false := beq_eq_false_iff_ne.2 (by omega)
  have h8' : (8 : Int) < m := by omega
  have hE2 : ∀ o, (w.alloc o).cell? ⟨2, 0, none⟩ = some (.iface ty p) := fun o => (World.grownBy_alloc w o none).cell hE (by simp)
  go_enter Tryz.func72, Tryz.ntmps72
  go_wp2_with fail
  go_ret
  exact ⟨rfl, World.grownBy_alloc _ _ _⟩
set_option maxRecDepth 100000 in
set_option maxHeartbeats 3200000 in
theorem malformed_keys (a : Option Addr) (m cap : Nat) (N : ByteArray) (K : Int) (ty : TypeId) (p : Value) (w : World) (hN : nameB N = true) (hK : K < 1 ∨ (m : Int) < K) (hE : w.cell? ⟨4, 0, none⟩ = some (.iface ty p)) :
    Calls Tryz.prog 73 #[.agg #[.string N, .slice a m cap, .int .i64 K]] w fun e w' => e = .returned (.iface ty p) ∧ w.grownBy w' none := by
  have HN := Lib.hid (fun W => name_any N W)
  rw [hN] at HN
  clear hN
  have hE2 : ∀ o, (w.alloc o).cell? ⟨4, 0, none⟩ = some (.iface ty p) := fun o => (World.grownBy_alloc w o none).cell hE (by simp)
  have K0 := Lib.hid (World.grownBy_alloc w (.cells #[.string N, .slice a m cap, .int .i64 K] 50) none)
  by_cases h1 : K < 1
  · clear hK
    go_enter Tryz.func73, Tryz.ntmps73
    go_wp2_with fail
    refine (HN.out _).mono ?_
    rintro e w1 ⟨rfl, rfl⟩
    go_wp2_with fail
    go_ret
    exact ⟨rfl, K0.out⟩
  · have h2 : (m : Int) < K := by omega
    have h1' : ¬ K < 1 := h1
    clear hK
    go_enter Tryz.func73, Tryz.ntmps73
    go_wp2_with fail
    refine (HN.out _).mono ?_
    rintro e w1 ⟨rfl, rfl⟩
    go_wp2_with fail
    go_ret
    exact ⟨rfl, K0.out⟩
theorem ErrT.grown {G : Nat} {w w' : World} (h : ErrT G w) (hg : w.grownBy w' none) : ErrT G w' := ⟨h.1, hg.cell h.2 (by simp)⟩
theorem grown_set1 {w w' : World} {b : Nat} (h : w.grownBy w' (some b)) (i : Nat) (v : Value) : w.grownBy (w'.setCell ⟨b, i, none⟩ v) (some b) :=
  ⟨h.os, h.tape, h.output, by simpa [World.setCell] using h.size, fun k hk hne => (Below.heap_setCell _ _ _ _ (fun e => hne (by simp [e]))).trans (h.block k hk hne)⟩
theorem HitF.after {w w' : World} {t : Nat} {x y : Int} {ty : TypeId} {p o0 o1 o2 : Value} (h : HitF w t x y ty p w') (h0 : w.cell? ⟨t, 0, none⟩ = some o0) (h1 : w.cell? ⟨t, 1, none⟩ = some o1) (_h2 : w.cell? ⟨t, 2, none⟩ = some o2) :
    w.grownBy w' (some t) ∧ w'.cell? ⟨t, 0, none⟩ = some (.int .i64 x) ∧ w'.cell? ⟨t, 1, none⟩ = some (.int .i64 y) := by
  obtain ⟨w4, hg, rfl⟩ := h
  have g0 : w.grownBy w4 (some t) := ⟨hg.os, hg.tape, hg.output, hg.size, fun k hk _ => hg.block k hk (by simp)⟩
  refine ⟨grown_set1 (grown_set1 (grown_set1 g0 0 _) 1 _) 2 _, ?_, ?_⟩
  · rw [World.cell?_setCell_other _ _ _ _ (by simp), World.cell?_setCell_other _ _ _ _ (by simp)]
    exact World.cell?_setCell_same' _ _ _ (by rw [hg.cell h0 (by simp)]; rfl)
  · rw [World.cell?_setCell_other _ _ _ _ (by simp)]
    exact World.cell?_setCell_same' _ _ _ (by rw [World.cell?_setCell_other _ _ _ _ (by simp), hg.cell h1 (by simp)]; rfl)
theorem grown_then6 {a b c : World} {row row' : Option Nat} (h : a.grownBy b row) (k : b.grownBy c row') (hr : ∀ j, row' = some j → a.heap.size ≤ j) : a.grownBy c row :=
  ⟨k.os.trans h.os, k.tape.trans h.tape, k.output.trans h.output, Nat.le_trans h.size k.size, fun i hi hne => (k.block i (Nat.lt_of_lt_of_le hi h.size) (fun e => by have := hr i e.symm; omega)).trans (h.block i hi hne)⟩
set_option maxHeartbeats 1600000 in
theorem check_bad (a : Option Addr) (n cap G : Nat) (k y : Int) (ty : TypeId) (p : Value) (w : World) (hE : ErrT G w)
    (HR0 : ∀ W, w.grownBy W none → Calls Tryz.prog 55 #[.slice a n cap] W fun e w' => e = .returned (.iface 145 (.agg #[.int .i64 k, .int .i64 y, .iface ty p])) ∧ W.grownBy w' none) :
    Calls Tryz.prog 36 #[.slice a n cap] w fun e w' => e = .returned (.tuple #[.int .i64 k, .int .i64 y]) ∧ w.grownBy w' none := by
  have HR := Lib.hid HR0
  have HE := Lib.hid hE
  have G0 := Lib.hid (World.grownBy_alloc w (.cells #[.int .i64 0, .int .i64 0, .nilIface] 145) none)
  have HB := Lib.hid (box3_new6 w (.int .i64 0) (.int .i64 0) .nilIface 145)
  have HZ : Hid (∀ i, (w.alloc (.cells #[.int .i64 0, .int .i64 0, .nilIface] 145)).frozen? ⟨w.heap.size, i, none⟩ = false) := Lib.hid fun i => by
    have e := heap_alloc_new w (.cells #[.int .i64 0, .int .i64 0, .nilIface] 145)
    simp only [World.frozen?, e]
    simp
  clear HR0 hE
  go_enter Tryz.func36, Tryz.ntmps36
  go_wp2_with fail
  refine (HR.out _ (World.grownBy_alloc _ _ _)).mono ?_
  rintro e w2 ⟨rfl, hg⟩
  have HA := Lib.hid (as_hitF k y ty p w.heap.size G _ _ _ w2 (HE.out.grown (G0.out.trans hg)) (hg.cell HB.out.1 (by simp)) (hg.cell HB.out.2.1 (by simp)) (hg.cell HB.out.2.2 (by simp)) ((hg.frozen_far ⟨w.heap.size, 0, none⟩ (by simp) (by simp)).trans (HZ.out 0)) ((hg.frozen_far ⟨w.heap.size, 1, none⟩ (by simp) (by simp)).trans (HZ.out 1)) ((hg.frozen_far ⟨w.heap.size, 2, none⟩ (by simp) (by simp)).trans (HZ.out 2)))
  have K2 := Lib.hid hg
  clear hg
  go_wp2_with fail
  refine HA.out.mono ?_
  rintro e w3 ⟨rfl, hh⟩
  obtain ⟨hg3, e0, e1⟩ := hh.after (K2.out.cell HB.out.1 (by simp)) (K2.out.cell HB.out.2.1 (by simp)) (K2.out.cell HB.out.2.2 (by simp))
  have K3 := Lib.hid hg3
  clear hg3 hh
  go_wp2_with fail
  go_quiet (fail)
  go_wp2_with fail
  go_ret2
  exact ⟨rfl, grown_drewN6 (grown_then6 (G0.out.trans K2.out) K3.out (fun j e => by cases e; exact Nat.le_refl _)) _⟩
end Go.Proofs.YtnfpomjcofhppaaGreatDoor
