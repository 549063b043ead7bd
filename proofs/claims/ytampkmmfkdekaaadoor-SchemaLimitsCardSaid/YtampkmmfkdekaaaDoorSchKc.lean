/- What the law SchemaKinds makes: rows that are appended, and what is told of them. -/
import Derived.Test.YtampkmmfkdekaaaDoorSchL
import Derived.Test.YtampkmmfkdekaaaDoorSchNm
import Derived.Deep.AppendLies
import Derived.Deep.RegionHeld3
import Derived.Deep.DeepCutAuto
import Derived.Deep.RegionWith
import Derived.Maps.AppendAt
namespace Go.Proofs.YtampkmmfkdekaaaDoor
open Go.RowKit

theorem wr_small6 {k q : Nat} (h : q ≤ 100) (hk : k < q) : IntKind.i64.wrap ((k : Int) + 1) = (k : Int) + 1 ∧ wrap64 ((k : Int) + 1) = (k : Int) + 1 := by
  rw [IntKind.wrap_i64]
  unfold wrap64
  omega
theorem turn_at6 (n : Int) {k : Nat} (h1000 : k ≤ 1000) (h : 0 < k) : ∃ q : Nat, q < k ∧ wrap64 ((IntKind.u64.wrap n).tmod (k : Int)) = (q : Int) := by
  have h0 : 0 ≤ IntKind.u64.wrap n := by
    unfold IntKind.wrap
    simp [IntKind.signed, IntKind.bits]
    omega
  have e := Int.tmod_eq_emod_of_nonneg (b := (k : Int)) h0
  have hb := Int.emod_lt_of_pos (IntKind.u64.wrap n) (show (0 : Int) < (k : Int) by omega)
  have ha := Int.emod_nonneg (IntKind.u64.wrap n) (show (k : Int) ≠ 0 by omega)
  refine ⟨((IntKind.u64.wrap n) % (k : Int)).toNat, by omega, ?_⟩
  rw [e]
  generalize IntKind.u64.wrap n % (k : Int) = m at *
  unfold wrap64
  omega
/-- A value's three cells. -/
def vC6 (x : Vv) : List Value := [.int .i64 x.k, .int .i64 x.n, .string x.s]
theorem val_info6 : (Tryd.prog.info? 29).map (fun i => (i.zero, i.size, i.bytes)) = some (some (.agg #[.int .i64 0, .int .i64 0, .string ⟨#[]⟩]), 3, 32) := by kernel_rfl
theorem info_parts6 {o : Option TypeInfo} {z : Value} {s b : Nat} (h : o.map (fun i => (i.zero, i.size, i.bytes)) = some (some z, s, b)) : ∃ i, o = some i ∧ i.zero = some z ∧ i.size = s ∧ i.bytes = b := by
  cases o with
  | none => cases h
  | some i => simp at h; exact ⟨i, rfl, h.1, h.2.1, h.2.2⟩
theorem add_at6 (g o j : Nat) : (⟨g, o, none⟩ : Addr).add j = ⟨g, o + j, none⟩ := by
  unfold Addr.add
  split
  · subst_vars; rfl
  · rfl
theorem vC6_one (l : List Vv) : ∀ u ∈ l.flatMap vC6, u.oneCell' = true := by
  intro u hu
  rw [List.mem_flatMap] at hu
  obtain ⟨x, _, hu⟩ := hu
  simp only [vC6, List.mem_cons, List.not_mem_nil, or_false] at hu
  rcases hu with rfl | rfl | rfl <;> rfl
theorem vC6_len (l : List Vv) : (l.flatMap vC6).length = l.length * 3 := by
  induction l with
  | nil => rfl
  | cons x l ih => rw [List.flatMap_cons, List.length_append, ih]; simp [vC6]; omega
/-- The cells of a part of a row. -/
theorem vv_cells {w : World} {b off : Nat} {r : List Vv} (hc : ∀ i, i < r.length → w.cell? ⟨b, off + i * 3, none⟩ = some (.int .i64 (r.getD i default).k) ∧ w.cell? ⟨b, off + i * 3 + 1, none⟩ = some (.int .i64 (r.getD i default).n) ∧ w.cell? ⟨b, off + i * 3 + 2, none⟩ = some (.string (r.getD i default).s)) :
    ∀ n i, i + n ≤ r.length → ∀ j u, (((r.drop i).take n).flatMap vC6)[j]? = some u → w.cell? ((⟨b, off + i * 3, none⟩ : Addr).add j) = some u
  | 0, i, _, j, u, hj => by simp at hj
  | n + 1, i, hi, j, u, hj => by
    have hd : r.drop i = r.getD i default :: r.drop (i + 1) := by rw [List.drop_eq_getElem_cons (by omega)]; simp [List.getD, show i < r.length by omega]
    rw [hd, List.take_succ_cons, List.flatMap_cons] at hj
    have h3 := hc i (by omega)
    rw [add_at6]
    match j, hj with
    | 0, hj => simp [vC6] at hj; subst hj; exact h3.1
    | 1, hj => simp [vC6] at hj; subst hj; exact h3.2.1
    | 2, hj => simp [vC6] at hj; subst hj; exact h3.2.2
    | j + 3, hj =>
      have := vv_cells hc n (i + 1) (by omega) j u (by rw [List.getElem?_append_right (by simp [vC6])] at hj; simpa [vC6] using hj)
      rw [add_at6] at this
      rw [show off + i * 3 + (j + 3) = off + (i + 1) * 3 + j by omega]
      exact this
theorem grown_then6 {a b c : World} {row row' : Option Nat} (h : a.grownBy b row) (k : b.grownBy c row') (hr : ∀ j, row' = some j → a.heap.size ≤ j) : a.grownBy c row :=
  ⟨k.os.trans h.os, k.tape.trans h.tape, k.output.trans h.output, Nat.le_trans h.size k.size, fun i hi hne => (k.block i (Nat.lt_of_lt_of_le hi h.size) (fun e => by have := hr i e.symm; omega)).trans (h.block i hi hne)⟩
theorem own_made6 (B g : Nat) (w : World) (hg : g = w.heap.size) (hB : B ≤ w.heap.size) : (w.alloc (.cells #[] 29)).ownsRow B 29 3 (.slice (some ⟨g, 0, none⟩) 0 0) 0 [] := by
  subst hg
  exact ⟨rfl, .inr ⟨w.heap.size, 0, #[], rfl, hB, heap_alloc_new _ _, Nat.le_refl _, Nat.zero_le _, rfl, rfl⟩⟩
theorem own_drew6 {w : World} {B size n : Nat} {e : TypeId} {v : Value} {xs : List Value} (h : w.ownsRow B e size v n xs) : w.drew.ownsRow B e size v n xs := h
theorem vC6_one1 (x : Vv) : ∀ u ∈ vC6 x, u.oneCell' = true := by
  have := vC6_one [x]
  simpa using this
theorem step_append_own6 (w : World) {P : Program} {ops : Array Oper} {o : Oper} {a : Act} {K : Act → World → Prop} {Q : Exit → Act → World → Prop} {E : Prop} (hgd : o.guard = none) (s x : Operand) (t : TypeId)
    (ho : o.op = .call { callee := .builtin .append, args := #[s, x], argTypes := #[t, t] })
    (base : Nat) (e : TypeId) (i : TypeInfo) (z : Value) (size bytes : Nat) (ht : P.underlying t = some (.slice e)) (hi : P.info? e = some i) (hz : i.zero = some z)
    (hsize : i.size = size) (hby : i.bytes = bytes) (hzs : z.cells.size = size) (hsz : 0 < size)
    (v : Value) (n : Nat) (xs : List Value) (hs : a.eval s = v) (hown : w.ownsRow base e size v n xs)
    (ad : Addr) (m c : Nat) (news : List Value) (hx : a.eval x = .slice (some ad) m c) (hl : news.length = m * size) (hnews : ∀ j u, news[j]? = some u → w.cell? (ad.add j) = some u) (h1 : ∀ u ∈ news, u.oneCell' = true)
    (h63 : n + m ≤ maxLen) (hbytes : (n + m) * bytes ≤ 140737488355328) (hbase : base ≤ w.heap.size)
    (h : ∀ v' w', w'.ownsRow base e size v' (n + m) (xs ++ news) → w.grownBy w' v.ownBlock → K (a.put o.dst v') w') :
    if Region.wanted o (yielded ops a.tmps) = true then Oper.wp P o a w K Q else E := by
  have hw : Region.wanted o (yielded ops a.tmps) = true := by simp [Region.wanted, hgd]
  rw [if_pos hw]
  exact wp_append_own w s x t ho base e i z size bytes ht hi hz hsize hby hzs hsz v n xs hs hown ad m c news hx hl hnews h1 h63 hbytes hbase fun v' w' h2 h3 _ => h v' w' h2 h3
def KBox (B : Nat) (W : World) (x y z : Value) : Prop := W.cell? ⟨B, 0, none⟩ = some x ∧ W.cell? ⟨B, 1, none⟩ = some y ∧ W.cell? ⟨B, 2, none⟩ = some z
theorem KBox.keep {B : Nat} {W W' : World} {x y z : Value} (h : KBox B W x y z) (hg : W.grownBy W' none) : KBox B W' x y z := ⟨hg.cell h.1 (by simp), hg.cell h.2.1 (by simp), hg.cell h.2.2 (by simp)⟩
theorem box_far {b : Nat} {w w' : World} {x y z : Value} {row : Option Nat} (h : KBox b w x y z) (hg : w.grownBy w' row) (hne : some b ≠ row) : KBox b w' x y z := ⟨hg.cell h.1 hne, hg.cell h.2.1 hne, hg.cell h.2.2 hne⟩
theorem vC6_at (b : Nat) (w : World) (x : Vv) (h : KBox b w (.int .i64 x.k) (.int .i64 x.n) (.string x.s)) : ∀ j u, (vC6 x)[j]? = some u → w.cell? ((⟨b, 0, none⟩ : Addr).add j) = some u := by
  intro j u hj
  rw [add_at6]
  match j, hj with
  | 0, hj => simp [vC6] at hj; subst hj; exact h.1
  | 1, hj => simp [vC6] at hj; subst hj; exact h.2.1
  | 2, hj => simp [vC6] at hj; subst hj; exact h.2.2
  | n + 3, hj => simp [vC6] at hj
theorem KBox.new (w : World) (x y z : Value) (T : TypeId) : KBox w.heap.size (w.alloc (.cells #[x, y, z] T)) x y z := box3_new6 w x y z T
/-- The boxes of the table and of the value, and that nothing elder has turned. -/
def StK (w W : World) (N : ByteArray) (ca : Option Addr) (m ccap : Nat) (K vk vn : Int) (vs : ByteArray) : Prop :=
  w.grownBy W none ∧ KBox w.heap.size W (.string N) (.slice ca m ccap) (.int .i64 K) ∧ KBox (w.heap.size + 1 + 1) W (.int .i64 vk) (.int .i64 vn) (.string vs) ∧ w.heap.size + 3 ≤ W.heap.size
theorem StK.keep {w W W' : World} {N : ByteArray} {ca : Option Addr} {m ccap : Nat} {K vk vn : Int} {vs : ByteArray} (h : StK w W N ca m ccap K vk vn vs) (hg : W.grownBy W' none) : StK w W' N ca m ccap K vk vn vs :=
  ⟨h.1.trans hg, h.2.1.keep hg, h.2.2.1.keep hg, Nat.le_trans h.2.2.2 hg.size⟩
theorem StK.start (w : World) (N : ByteArray) (ca : Option Addr) (m ccap : Nat) (K at' vk vn : Int) (vs : ByteArray) :
    StK w (((w.alloc (.cells #[.string N, .slice ca m ccap, .int .i64 K] 24)).alloc (.cells #[.int .i64 at', .int .i64 vk, .int .i64 vn, .string vs] 31)).alloc (.cells #[.int .i64 vk, .int .i64 vn, .string vs] 29)).drew N ca m ccap K vk vn vs := by
  have g1 := World.grownBy_alloc w (.cells #[.string N, .slice ca m ccap, .int .i64 K] 24) none
  have b1 := KBox.new w (.string N) (.slice ca m ccap) (.int .i64 K) 24
  have s1 : (w.alloc (.cells #[.string N, .slice ca m ccap, .int .i64 K] 24)).heap.size = w.heap.size + 1 := by simp
  generalize w.alloc (.cells #[.string N, .slice ca m ccap, .int .i64 K] 24) = w1 at *
  have g2 := World.grownBy_alloc w1 (.cells #[.int .i64 at', .int .i64 vk, .int .i64 vn, .string vs] 31) none
  have s2 : (w1.alloc (.cells #[.int .i64 at', .int .i64 vk, .int .i64 vn, .string vs] 31)).heap.size = w.heap.size + 1 + 1 := by simp [s1]
  generalize w1.alloc (.cells #[.int .i64 at', .int .i64 vk, .int .i64 vn, .string vs] 31) = w2 at *
  have g3 := World.grownBy_alloc w2 (.cells #[.int .i64 vk, .int .i64 vn, .string vs] 29) none
  have b3 := KBox.new w2 (.int .i64 vk) (.int .i64 vn) (.string vs) 29
  rw [s2] at b3
  exact ⟨grown_drew6 ((g1.trans g2).trans g3), (b1.keep g2).keep (grown_drew6 g3), b3, by simp [s2]⟩
theorem vC6_get (l : List Vv) : ∀ i, i < l.length → (l.flatMap vC6)[i * 3]? = some (.int .i64 (l.getD i default).k) ∧ (l.flatMap vC6)[i * 3 + 1]? = some (.int .i64 (l.getD i default).n) ∧ (l.flatMap vC6)[i * 3 + 2]? = some (.string (l.getD i default).s) := by
  induction l with
  | nil => intro i hi; simp at hi
  | cons x l ih =>
    intro i hi
    rw [List.flatMap_cons]
    match i, hi with
    | 0, _ => exact ⟨rfl, rfl, rfl⟩
    | i + 1, hi =>
      have := ih i (by simpa using hi)
      have e : ∀ o, (vC6 x ++ l.flatMap vC6)[(i + 1) * 3 + o]? = (l.flatMap vC6)[i * 3 + o]? := fun o => by
        rw [List.getElem?_append_right (by simp [vC6]; omega)]
        congr 1
        simp [vC6]
        omega
      have e0 := e 0
      simp only [Nat.add_zero] at e0
      rw [e0, e 1, e 2]
      simpa [List.getD] using this
/-- A row of one's own lies in memory. -/
theorem own_vv6 {B : Nat} {w : World} {v : Value} {l : List Vv} (h : w.ownsRow B 29 3 v l.length (l.flatMap vC6)) (hl : l.length ≤ 1000) : ∃ a cap, v = .slice a l.length cap ∧ l.length ≤ cap ∧ VvAt w.heap.size w a l := by
  rcases h.2 with ⟨hv, h0⟩ | ⟨g, cap, cur, hv, hb, hg, hc, _⟩
  · exact ⟨none, 0, by rw [hv, h0], by omega, by omega, .inl (List.eq_nil_of_length_eq_zero h0)⟩
  · have hlt := (h.lt g (by rw [hv]; rfl)).2
    refine ⟨some ⟨g, 0, none⟩, cap, hv, hc, by omega, .inr ⟨g, 0, rfl, hlt, fun i hi => ?_⟩⟩
    have c := h.cells (g := g) (by rw [hv]; rfl)
    have k := vC6_get l i hi
    have c0 := c _ _ k.1
    have c1 := c _ _ k.2.1
    have c2 := c _ _ k.2.2
    rw [add_at6] at c0 c1 c2
    exact ⟨c0, c1, c2⟩
/-- The row with another value at k: it fits just when the value does. -/
theorem fits_with6 {l : List Cl} {r : List Vv} {k : Nat} {v : Vv} (hf : Fits l r) (hk : k < r.length) (hv : v.good = true) :
    Fits l ((r.drop 0).take k ++ [v] ++ (r.drop (k + 1)).take (r.length - (k + 1))) ↔ (decide (v.k = (l.getD k default).k) || (decide (v.k = 0) && (l.getD k default).b)) = true := by
  have e : (r.drop 0).take k ++ [v] ++ (r.drop (k + 1)).take (r.length - (k + 1)) = r.set k v := by
    rw [List.take_of_length_le (l := r.drop (k + 1)) (by simp), List.drop_zero, List.set_eq_take_append_cons_drop, if_pos hk]
    simp
  rw [e]
  have hg : ∀ i, i < r.length → (r.set k v).getD i default = if k = i then v else r.getD i default := fun i hi => by
    simp only [List.getD, List.getElem?_set]
    by_cases h : k = i
    · subst h; simp [hi]
    · simp [h]
  constructor
  · intro h
    have := h.2 k (by rw [← hf.1]; exact hk)
    rw [hg k hk, if_pos rfl] at this
    unfold holdsB at this
    rw [hv, Bool.true_and] at this
    exact this
  · intro h
    refine ⟨by rw [List.length_set]; exact hf.1, fun i hi => ?_⟩
    rw [hg i (by rw [hf.1]; exact hi)]
    split
    · rename_i hki
      subst hki
      unfold holdsB
      rw [hv, Bool.true_and]
      exact h
    · exact hf.2 i hi
theorem fits_not6 {l : List Cl} {r : List Vv} (h : r.length ≠ l.length) : ¬ Fits l r := fun hf => h hf.1
end Go.Proofs.YtampkmmfkdekaaaDoor
