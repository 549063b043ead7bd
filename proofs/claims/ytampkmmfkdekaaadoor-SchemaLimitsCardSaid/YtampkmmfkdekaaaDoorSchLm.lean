/- The tables that SchemaLimits makes. -/
import Derived.Test.YtampkmmfkdekaaaDoorSchEr
import Derived.Test.YtampkmmfkdekaaaDoorSchB
import Derived.Test.YtampkmmfkdekaaaDoorSchKc
import Derived.Deep.AppendLies
import Derived.Deep.MidRow
namespace Go.Proofs.YtampkmmfkdekaaaDoor
open Go.RowKit

/-- int(uint(x) % d) -/
theorem low_mod (x d : Int) (hd : 0 < d) (hd2 : d < 100) : ∃ n : Nat, wrap64 ((IntKind.u64.wrap x).tmod d) = n ∧ (n : Int) < d := by
  have h0 : 0 ≤ IntKind.u64.wrap x := by rw [IntKind.wrap_u64]; omega
  have h1 : (IntKind.u64.wrap x).tmod d = IntKind.u64.wrap x % d := Int.tmod_eq_emod_of_nonneg h0
  have h2 := Int.emod_nonneg (IntKind.u64.wrap x) (show d ≠ 0 by omega)
  have h3 := Int.emod_lt_of_pos (IntKind.u64.wrap x) hd
  refine ⟨(IntKind.u64.wrap x % d).toNat, ?_, by omega⟩
  rw [h1]
  unfold wrap64
  omega
def letC (i : Nat) : UInt8 := UInt8.ofNat (97 + i)
theorem letC_nat {i : Nat} (h : i < 100) : ((letC i).toNat : Int) = 97 + (i : Int) := by
  unfold letC
  rw [UInt8.toNat_ofNat']
  omega
theorem conv_one (w : World) (b i : Nat) (hi : i < 100) (hc : w.cell? ⟨b, 0, none⟩ = some (.int .u8 (97 + (i : Int)))) : (convert 42 9 (.slice (some ⟨b, 0, none⟩) 1 1)).run Tryd.prog w = .ok (.string ⟨#[letC i]⟩) w := by
  refine run_convert_bytes_back w _ _ 5 ⟨b, 0, none⟩ 1 [letC i] Tryd.underlying42 Tryd.underlying5 Tryd.underlying9 (fun j hj => ?_)
  obtain rfl : j = 0 := by simpa using hj
  have e := letC_nat hi
  simpa [Addr.add, hc] using e.symm
def tName (i : Nat) : ByteArray := ⟨#[116]⟩ ++ ⟨#[letC i]⟩
def cName (i : Nat) : ByteArray := ⟨#[99]⟩ ++ ⟨#[letC i]⟩
def colK (i : Nat) : Cl := ⟨cName i, 2, false⟩
def colC (c : Cl) : List Value := [.string c.n, .int .i64 c.k, .bool c.b]
def colsL (q : Nat) : List Cl := (List.range q).map colK
def colsC (q : Nat) : List Value := (colsL q).flatMap colC
theorem colsC_succ (q : Nat) : colsC (q + 1) = colsC q ++ [.string (cName q), .int .i64 2, .bool false] := by
  simp [colsC, colsL, List.range_succ, colC, colK]
theorem col_info6 : (Tryd.prog.info? 39).map (fun i => (i.zero, i.size, i.bytes)) = some (some (.agg #[.string ⟨#[]⟩, .int .i64 0, .bool false]), 3, 32) := by kernel_rfl
theorem tab_info6 : (Tryd.prog.info? 24).map (fun i => (i.zero, i.size, i.bytes)) = some (some (.agg #[.string ⟨#[]⟩, .slice none 0 0, .int .i64 0]), 3, 48) := by kernel_rfl
theorem news3 {w : World} {b : Nat} {x y z : Value} {T : TypeId} (h : w.heap[b]? = some (.cells #[x, y, z] T (0, 0))) : ∀ j u, ([x, y, z] : List Value)[j]? = some u → w.cell? ((⟨b, 0, none⟩ : Addr).add j) = some u := by
  intro j u hj
  have e : (⟨b, 0, none⟩ : Addr).add j = ⟨b, j, none⟩ := by rw [Addr.add_mid, Nat.zero_add]
  rw [e, cell_of_row w b j _ _ _ h]
  simpa using hj
/-- A table under way: its box, and its columns so far. -/
def Box6 (X j cc : Nat) (ca : Option Addr) (i : Nat) (W0 wr : World) : Prop :=
  wr.heap[X]? = some (.cells #[.string (tName i), .slice ca j cc, .int .i64 1] 24 (0, 0)) ∧ wr.ownsRow (X + 1) 39 3 (.slice ca j cc) j (colsC j) ∧ W0.grownBy wr none
theorem Box6.next {X j cc g1 cc1 i : Nat} {ca : Option Addr} {W0 wr wb w4 : World} (h : Box6 X j cc ca i W0 wr) (hX : X < wr.heap.size) (hW : W0.heap.size ≤ X) (hb : wr.grownBy wb none)
    (hown : w4.ownsRow (X + 1) 39 3 (.slice (some ⟨g1, 0, none⟩) (j + 1) cc1) (j + 1) (colsC j ++ [.string (cName j), .int .i64 2, .bool false])) (hg : wb.grownBy w4 (Value.slice ca j cc).ownBlock) :
    w4.heap[X]? = some (.cells #[.string (tName i), .slice ca j cc, .int .i64 1] 24 (0, 0)) ∧ Box6 X (j + 1) cc1 (some ⟨g1, 0, none⟩) i W0 (w4.setCell ⟨X, 1, none⟩ (.slice (some ⟨g1, 0, none⟩) (j + 1) cc1)) := by
  have ne : ∀ k, (Value.slice ca j cc).ownBlock = some k → X + 1 ≤ k := fun k hk => (World.ownsRow.lt h.2.1 k hk).1
  have hg1 : X + 1 ≤ g1 := (World.ownsRow.lt hown g1 rfl).1
  have e4 : w4.heap[X]? = some (.cells #[.string (tName i), .slice ca j cc, .int .i64 1] 24 (0, 0)) :=
    (hg.block X (Nat.lt_of_lt_of_le hX hb.size) (fun e => by have := ne X e.symm; omega)).trans ((hb.block X hX (by simp)).trans h.1)
  have gs : w4.grownBy (w4.setCell ⟨X, 1, none⟩ (.slice (some ⟨g1, 0, none⟩) (j + 1) cc1)) (some X) := grown_set1 (grown_refl6 w4 (some X)) 1 _
  refine ⟨e4, ?_, ?_, ?_⟩
  · have := heap_setCell_same w4 X 1 _ _ (.slice (some ⟨g1, 0, none⟩) (j + 1) cc1) e4
    simpa using this
  · rw [colsC_succ]
    exact World.ownsRow.kept hown gs (.inr (fun e => by have := Option.some.inj e; simp at this; omega))
  · exact grown_then6 (grown_then6 (h.2.2.trans hb) hg (fun k e => by have := ne k e; omega)) gs (fun k e => by cases e; exact hW)
def tbC (t : Tb) : List Value := [.string t.n, .slice t.a t.l.length t.cap, .int .i64 t.k]
/-- The tables so far: their own row, each with its own columns. -/
structure Tabs6 (M i pc : Nat) (pa : Option Addr) (ts : List Tb) (w1 wr : World) : Prop where
  len : ts.length = i
  at_ : ∀ j, j < i → (ts.getD j default).n = tName j ∧ (ts.getD j default).l = colsL M ∧ (ts.getD j default).k = 1 ∧ M ≤ (ts.getD j default).cap
  own3 : wr.ownsRow w1.heap.size 24 3 (.slice pa i pc) i (ts.flatMap tbC)
  cols : ∀ t ∈ ts, wr.ownsRow w1.heap.size 39 3 (.slice t.a M t.cap) M (colsC M)
  grown : w1.grownBy wr none
theorem own_base {w : World} {B B' size n : Nat} {e : TypeId} {v : Value} {xs : List Value} (h : w.ownsRow B e size v n xs) (hB : B' ≤ B) : w.ownsRow B' e size v n xs :=
  ⟨h.1, h.2.imp id fun ⟨g, cap, cur, h1, h2, h3⟩ => ⟨g, cap, cur, h1, Nat.le_trans hB h2, h3⟩⟩
theorem own_apart {w : World} {B B' s s' n n' : Nat} {e e' : TypeId} {v v' : Value} {xs xs' : List Value} (h : w.ownsRow B e s v n xs) (h' : w.ownsRow B' e' s' v' n' xs') (hne : e ≠ e') : v.ownBlock = none ∨ v.ownBlock ≠ v'.ownBlock := by
  rcases h.2 with ⟨hv, _⟩ | ⟨g, cap, cur, hv, _, hg, _⟩
  · exact .inl (by rw [hv]; rfl)
  · rcases h'.2 with ⟨hv', _⟩ | ⟨g', cap', cur', hv', _, hg', _⟩
    · exact .inr (by rw [hv, hv']; simp [Value.ownBlock])
    · refine .inr (fun q => ?_)
      rw [hv, hv'] at q
      have q' : g = g' := by simpa [Value.ownBlock] using q
      subst q'
      rw [hg] at hg'
      have := Option.some.inj hg'
      injection this with _ h2 _
      exact hne h2
theorem Tabs6.keep {M i pc : Nat} {pa : Option Addr} {ts : List Tb} {w1 wr w : World} (h : Tabs6 M i pc pa ts w1 wr) (hg : wr.grownBy w none) : Tabs6 M i pc pa ts w1 w :=
  ⟨h.len, h.at_, World.ownsRow.kept h.own3 hg (by cases (Value.slice pa i pc).ownBlock <;> simp), fun t ht => World.ownsRow.kept (h.cols t ht) hg (by cases (Value.slice t.a M t.cap).ownBlock <;> simp), h.grown.trans hg⟩
theorem Tabs6.push {M i pc g1 pc1 cc X : Nat} {pa ca : Option Addr} {ts : List Tb} {w1 wr w4 : World} (h : Tabs6 M i pc pa ts w1 wr) (hc : wr.ownsRow (X + 1) 39 3 (.slice ca M cc) M (colsC M)) (hX : w1.heap.size ≤ X) (hM : M ≤ cc)
    (hown : w4.ownsRow w1.heap.size 24 3 (.slice (some ⟨g1, 0, none⟩) (i + 1) pc1) (i + 1) (ts.flatMap tbC ++ [.string (tName i), .slice ca M cc, .int .i64 1])) (hg : wr.grownBy w4 (Value.slice pa i pc).ownBlock) :
    Tabs6 M (i + 1) pc1 (some ⟨g1, 0, none⟩) (ts ++ [⟨tName i, ca, cc, colsL M, 1⟩]) w1 w4 := by
  have hl : (colsL M).length = M := by simp [colsL]
  refine ⟨by simp [h.len], fun j hj => ?_, ?_, fun t ht => ?_, grown_then6 h.grown hg (fun k e => (World.ownsRow.lt h.own3 k e).1)⟩
  · by_cases hji : j < i
    · have e : (ts ++ [(⟨tName i, ca, cc, colsL M, 1⟩ : Tb)]).getD j default = ts.getD j default := by simp [List.getD, List.getElem?_append_left, h.len, hji]
      rw [e]; exact h.at_ j hji
    · obtain rfl : j = i := by omega
      have e : (ts ++ [(⟨tName j, ca, cc, colsL M, 1⟩ : Tb)]).getD j default = ⟨tName j, ca, cc, colsL M, 1⟩ := by simp [List.getD, h.len]
      rw [e]; exact ⟨rfl, rfl, rfl, hM⟩
  · rw [List.flatMap_append]
    simpa [tbC, hl] using hown
  · rcases List.mem_append.1 ht with ht | ht
    · exact World.ownsRow.kept (h.cols t ht) hg (own_apart (h.cols t ht) h.own3 (by decide))
    · obtain rfl := List.mem_singleton.1 ht
      exact World.ownsRow.kept (own_base hc (by omega)) hg (own_apart hc h.own3 (by decide))
end Go.Proofs.YtampkmmfkdekaaaDoor
