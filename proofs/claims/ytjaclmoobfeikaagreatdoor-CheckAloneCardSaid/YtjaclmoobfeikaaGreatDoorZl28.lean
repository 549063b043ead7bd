/- Lists of items, of keys: are two the same? The reader's IN. The reader's BETWEEN, and so among. -/
import Derived.Test.YtjaclmoobfeikaaGreatDoorZl27
namespace Go.Proofs.YtjaclmoobfeikaaGreatDoor
open Go.RowKit

theorem flat_len {α : Type} (c : α → List Value) (n : Nat) (hc : ∀ x, (c x).length = n) (l : List α) : (l.flatMap c).length = l.length * n := by
  induction l with
  | nil => simp
  | cons x l ih => rw [List.flatMap_cons, List.length_append, ih, hc, List.length_cons, Nat.add_mul, Nat.one_mul, Nat.add_comm]
theorem flat_at {α : Type} [Inhabited α] (c : α → List Value) (n : Nat) (hc : ∀ x, (c x).length = n) (l : List α) : ∀ i, i < l.length → ∀ j u, (c (l.getD i default))[j]? = some u → (l.flatMap c)[i * n + j]? = some u := by
  induction l with
  | nil => intro i hi; simp at hi
  | cons x l ih =>
    intro i hi j u hj
    rw [List.flatMap_cons]
    cases i with
    | zero =>
      have hlt : j < (c x).length := (List.getElem?_eq_some_iff.1 hj).1
      rw [List.getElem?_append_left (by omega), Nat.zero_mul, Nat.zero_add]
      exact hj
    | succ i =>
      rw [List.getElem?_append_right (by rw [hc, Nat.add_mul]; omega), hc, show (i + 1) * n + j - n = i * n + j by rw [Nat.add_mul]; omega]
      exact ih i (by simpa using hi) j u hj
theorem CellsS.elem {α : Type} [Inhabited α] {S : Nat → Prop} {w : World} {a : Ptr} {l : List α} {c : α → List Value} {n : Nat} (hc : ∀ x, (c x).length = n) (hn : 0 < n) (h : CellsS S w a (l.flatMap c)) {i : Nat} (hi : i < l.length) :
    ∃ b off, a = some ⟨b, off, Option.none⟩ ∧ S b ∧ b < w.heap.size ∧ ∀ j u, (c (l.getD i default))[j]? = some u → w.cell? ⟨b, off + i * n + j, Option.none⟩ = some u := by
  rcases h with h | ⟨b, off, e, hS, hlt, hcs⟩
  · have h1 := congrArg List.length h
    rw [flat_len c n hc, List.length_nil] at h1
    have := Nat.mul_pos (show 0 < l.length by omega) hn
    omega
  · exact ⟨b, off, e, hS, hlt, fun j u hj => by rw [Nat.add_assoc]; exact hcs _ _ (flat_at c n hc l i hi j u hj)⟩
theorem Itm.c_len (x : Itm) : x.c.length = 3 := rfl
theorem Kyo.c_len (x : Kyo) : x.c.length = 4 := rfl
end Go.Proofs.YtjaclmoobfeikaaGreatDoor
namespace Go.Proofs.YtjaclmoobfeikaaGreatDoor
open Go.RowKit

/-- A row of values in a window. -/
theorem win_rw {S : Nat → Prop} {w : World} {a : Ptr} {cap : Nat} {l : List Vl} (h : Win 3 w a cap l.length (l.flatMap vCT)) (hS : ∀ k, bk a k → S k) (hl : l.length ≤ 4294967296) (hs : ∀ x ∈ l, x.s.size ≤ maxLen) : RwS S w a l := by
  refine ⟨hl, hs, ?_⟩
  rcases h.mem with h0 | ⟨g, off, e, hc, _, _⟩
  · have := h.le
    exact .inl (List.eq_nil_of_length_eq_zero (by omega))
  · refine .inr ⟨g, off, e, hS g (by rw [e, bk_some]), h.lt g (by rw [e, bk_some]), fun i hi => ?_⟩
    obtain ⟨k0, k1, k2⟩ := vCT_at l i hi
    exact ⟨hc _ _ k0, hc _ _ k1, hc _ _ k2⟩
theorem textRes_size (o : Option (List UInt8)) : ∃ k n t c, textRes o = .tuple #[.agg #[.int .i64 k, .int .i64 n, .string t], .int .i64 c] ∧ t.size ≤ 60 := by
  unfold textRes
  cases o with
  | none => exact ⟨_, _, _, _, rfl, Nat.zero_le 60⟩
  | some l =>
    simp only
    split
    · rename_i h
      exact ⟨_, _, _, _, rfl, by show l.toArray.size ≤ 60; simpa using h⟩
    · exact ⟨_, _, _, _, rfl, Nat.zero_le 60⟩
theorem intRes_size (l : List UInt8) : ∃ k n t c, intRes l = .tuple #[.agg #[.int .i64 k, .int .i64 n, .string t], .int .i64 c] ∧ t.size ≤ 60 := by
  unfold intRes
  split
  · split <;> exact ⟨_, _, _, _, rfl, Nat.zero_le 60⟩
  · exact ⟨_, _, _, _, rfl, Nat.zero_le 60⟩
theorem readV_size (l : List UInt8) : ∃ k n t c, readV l = .tuple #[.agg #[.int .i64 k, .int .i64 n, .string t], .int .i64 c] ∧ t.size ≤ 60 := by
  unfold readV
  split
  · exact ⟨_, _, _, _, rfl, Nat.zero_le 60⟩
  · split
    · exact ⟨_, _, _, _, rfl, Nat.zero_le 60⟩
    · split
      · exact ⟨_, _, _, _, rfl, Nat.zero_le 60⟩
      · match l with
        | [] => exact intRes_size []
        | c :: r =>
          simp only
          split
          · exact textRes_size _
          · exact intRes_size _
theorem litV_size (t : ByteArray) : (litV t).s.size ≤ 60 := by
  obtain ⟨k, n, x, c, h, hs⟩ := readV_size t.data.toList
  unfold litV
  rw [h]
  exact hs
theorem lit_size (s : RS) : s.literal.2.s.size ≤ 60 := by
  unfold RS.literal
  split
  · exact litV_size _
  · exact Nat.zero_le 60
/-- The cells of a predicate IN. -/
def inC (col : ByteArray) (pos : Nat) : Array Value := #[.int .i64 5, .string col, .int .i64 0, .int .i64 0, .int .i64 0, .string ⟨#[]⟩, .string ⟨#[]⟩, .slice Option.none 0 0, .slice Option.none 0 0, .int .i64 pos]
def asC (col : ByteArray) (pos : Nat) : Array Value := #[.int .i64 0, .string col, .int .i64 0, .int .i64 0, .int .i64 0, .string ⟨#[]⟩, .string ⟨#[]⟩, .slice Option.none 0 0, .slice Option.none 0 0, .int .i64 pos]
theorem only_grownR {w w1 w2 : World} {R : Nat} {M : Nat → Prop} (h : w.grownBy w1 (some R)) (ho : Only M w1 w2) (hM : ∀ j, M j → j = R ∨ w.heap.size ≤ j) : w.grownBy w2 (some R) :=
  ⟨ho.os.trans h.os, ho.tape.trans h.tape, ho.output.trans h.output, Nat.le_trans h.size ho.size, fun i hi hne => (ho.block i (Nat.lt_of_lt_of_le hi h.size) (fun e => by
    rcases hM i e with e | e
    · exact hne (by rw [e])
    · omega)).trans (h.block i hi hne)⟩
theorem alloc3 (w : World) (o1 o2 o3 : Obj) : (((w.alloc o1).alloc o2).alloc o3).heap[w.heap.size]? = some o1 ∧ (((w.alloc o1).alloc o2).alloc o3).heap[w.heap.size + 1]? = some o2 ∧ (((w.alloc o1).alloc o2).alloc o3).heap[w.heap.size + 1 + 1]? = some o3 ∧ w.grownBy (((w.alloc o1).alloc o2).alloc o3) none ∧ (((w.alloc o1).alloc o2).alloc o3).heap.size = w.heap.size + 3 := by
  have s1 : (w.alloc o1).heap.size = w.heap.size + 1 := by simp
  have s2 : ((w.alloc o1).alloc o2).heap.size = w.heap.size + 1 + 1 := by simp
  have e1 := heap_alloc_new w o1
  have e2 := heap_alloc_new (w.alloc o1) o2
  have e3 := heap_alloc_new ((w.alloc o1).alloc o2) o3
  rw [s1] at e2
  rw [s2] at e3
  exact ⟨blk_grown (World.grownBy_alloc _ o3 none) (blk_grown (World.grownBy_alloc _ o2 none) e1), blk_grown (World.grownBy_alloc _ o3 none) e2, e3, ((World.grownBy_alloc w o1 none).trans (World.grownBy_alloc _ o2 none)).trans (World.grownBy_alloc _ o3 none), by simp⟩
set_option maxRecDepth 100000 in
set_option maxHeartbeats 3200000 in
theorem pin_any (R b deep : Nat) (s : RS) (col : ByteArray) (pos : Nat) (w : World) (h : RdA R b deep s w) (hc : s.comes bIn = true) :
    Calls Tryz.prog 157 #[.pointer (some ⟨R, 0, none⟩), .agg (asC col pos)] w (PrGo R b deep (amongL col pos s) w) := by
  have HS := Lib.hid h
  have HT := Lib.hid (fun W (hW : w.grownBy W none) => took_yes R b deep s bIn W (h.keep hW) (by decide) hc)
  have HA := Lib.hid (show amongL col pos s = (((listF 12 RS.literal 13 (s.pass.need bOpen) []).1.need bShut), .mk 5 col 0 ⟨0, 0, ⟨#[]⟩⟩ ⟨#[]⟩ (listF 12 RS.literal 13 (s.pass.need bOpen) []).2 [] pos) from by unfold amongL; rw [if_pos hc])
  have HO := Lib.hid (fun st W (hW : RdA R b deep st W) => need_any R b deep st bOpen W hW (by decide))
  have HZ := Lib.hid (fun st W (hW : RdA R b deep st W) => need_any R b deep st bShut W hW (by decide))
  have hR := h.lt'
  have hb := h.lt
  have hEr : 11 < w.heap.size := by obtain ⟨tp, p, far⟩ := h.far; exact World.block_lt_of_cell? w _ far
  unfold asC
  clear h hc
  go_enter Tryz.func157, Tryz.ntmps157
  obtain ⟨e0, e1, e2, eg, es⟩ := alloc3 w (.cells #[.pointer (some ⟨R, 0, none⟩)] 127) (.cells (asC col pos) 33) (.cells z10 33)
  have E := Lib.hid (And.intro e0 (And.intro e1 (And.intro e2 (And.intro eg es))))
  clear e0 e1 e2 eg es
  go_wp2_with fail
  refine (HT.out _ E.out.2.2.2.1).mono ?_
  rintro e w2 ⟨rfl, hr⟩
  have x0 := hr.blk E.out.1 (by omega)
  have x1 := hr.blk E.out.2.1 (by omega)
  have x2 := Lib.hid (hr.blk E.out.2.2.1 (by omega))
  have X0 := Lib.hid x0
  have X1 := Lib.hid x1
  have R2 := Lib.hid (show RdGo R b deep s.pass w w2 from ⟨hr.1, E.out.2.2.2.1.trans' hr.2⟩)
  have l2 : w.heap.size + 3 ≤ w2.heap.size := by have := E.out.2.2.2.2; have := hr.2.size; omega
  have c0 := cell_of_row _ _ 0 _ _ _ x0
  have d0 := cell_of_row _ _ 0 _ _ _ x1
  have f0 := frozen_of_row _ _ 0 _ _ x1
  simp [asC] at c0 d0
  clear hr x0 x1
  go_wp2_with fail
  have R3 := Lib.hid (RdGo.stored HS.out R2.out (Nat.le_succ w.heap.size) (grown_cellR w2 (w.heap.size + 1) 0 (.int .i64 5)))
  have Y0 := Lib.hid (blk_set (b := w.heap.size + 1) (i := 0) (u := .int .i64 5) X0.out (by omega))
  have Y2 := Lib.hid (blk_set (b := w.heap.size + 1) (i := 0) (u := .int .i64 5) x2.out (by omega))
  have Y1 := Lib.hid (show (w2.setCell ⟨w.heap.size + 1, 0, none⟩ (.int .i64 5)).heap[w.heap.size + 1]? = some (.cells (inC col pos) 33 (0, 0)) from by
    have := heap_setCell_same w2 (w.heap.size + 1) 0 _ _ (.int .i64 5) X1.out
    simpa [asC, inC] using this)
  have ls : (w2.setCell ⟨w.heap.size + 1, 0, none⟩ (.int .i64 5)).heap.size = w2.heap.size := by simp [World.setCell]
  generalize w2.setCell ⟨w.heap.size + 1, 0, none⟩ (.int .i64 5) = w3 at *
  refine (HO.out _ _ R3.out.1).mono ?_
  rintro e w4 ⟨rfl, hr⟩
  have z0 := hr.blk Y0.out (by omega)
  have z1 := hr.blk Y1.out (by omega)
  have z2 := Lib.hid (hr.blk Y2.out (by omega))
  have R4 := Lib.hid (R3.out.then hr)
  have l4 : w.heap.size + 3 ≤ w4.heap.size := by have := hr.2.size; omega
  have HJ0 : LsJ 3 w4 (w.heap.size + 1) 7 w.heap.size R (inC col pos) 33 w4 0 [] := ⟨⟨Option.none, 0, z1, Win.nil _ _, fun k hk => by simp [bk] at hk⟩, z0, Only.refl _ _⟩
  have c4 := cell_of_row _ _ 0 _ _ _ z0
  simp at c4
  have HL := Lib.hid (plist_any R b deep 12 169 (.pointer (some ⟨w.heap.size + 1, 0, none⟩)) (.pointer (some ⟨w.heap.size, 0, none⟩)) RS.literal (fun W acc => LsJ 3 w4 (w.heap.size + 1) 7 w.heap.size R (inC col pos) 33 W acc.length (acc.flatMap vCT) ∧ ∀ v ∈ acc, v.s.size ≤ maxLen) (s.pass.need bOpen) w4 R4.out.1 ⟨HJ0, by simp⟩ (by decide) (by decide)
    (fun W W' acc hj hg => ⟨hj.1.row hg (by omega) (by omega) (by omega), hj.2⟩) (fun args W => Tryz.call169 args W)
    (fun W st acc hR' hj hl => (pval1_any R b deep (w.heap.size + 1) w.heap.size st (inC col pos) 33 w4 W acc hR' hj.1 (show 7 < 10 by decide) (by omega) (by omega) (by omega) (by omega) (by omega) (by omega) (by omega) (by omega) (by omega)).mono fun e w' ⟨he, h1, h2⟩ => ⟨he, h1, h2, fun v hv => by
      rw [List.mem_append, List.mem_singleton] at hv
      rcases hv with hv | rfl
      · exact hj.2 v hv
      · exact Nat.le_trans (lit_size st) (by decide)⟩))
  clear hr z0 z1 c0 d0 f0 HJ0
  go_wp2_with fail
  refine HL.out.mono ?_
  rintro e w5 ⟨rfl, hRA, hJ5, hsz⟩
  have hcnt := listF_len 12 RS.literal 13 (s.pass.need bOpen) [] (by decide)
  have HA2 := HA.out
  simp only [show 12 + 1 = 13 from rfl] at hRA hJ5 hsz
  generalize listF 12 RS.literal 13 (s.pass.need bOpen) [] = r at *
  obtain ⟨s5, acc⟩ := r
  simp only at hRA hJ5 hsz hcnt HA2
  obtain ⟨a, cap, hb5, hw5, hk5⟩ := hJ5.blk
  have c5 := cell_of_row _ _ 0 _ _ _ hJ5.rblk
  simp at c5
  have R5 := Lib.hid (show RdGo R b deep s5 w w5 from ⟨hRA, only_grownR R4.out.2 hJ5.only (fun j hj => hj.imp id (fun e => by omega))⟩)
  obtain ⟨y, hy⟩ : ∃ y : Pm, y = .mk 5 col 0 ⟨0, 0, ⟨#[]⟩⟩ ⟨#[]⟩ a cap acc Option.none 0 [] pos := ⟨_, rfl⟩
  have hyc : (inC col pos).setIfInBounds 7 (.slice a acc.length cap) = y.c.toArray := by rw [hy]; rfl
  rw [hyc] at hb5
  have HB5 := Lib.hid hb5
  have z5 := Lib.hid ((hJ5.only.block (w.heap.size + 1 + 1) (by omega) (fun e => by omega)).trans z2.out)
  have HSm := Lib.hid (show PmS (fun j => w4.heap.size ≤ j) w5 y from by
    rw [hy]
    exact ⟨win_rw hw5 hk5 (by omega) hsz, hw5.le, .inl rfl, Nat.le_refl _, trivial⟩)
  have hbl5 := (Array.getElem?_eq_some_iff.1 hb5).1
  have HY := Lib.hid hy
  have HZ5 := Lib.hid (HZ.out _ _ hRA)
  clear hRA hJ5 hsz hcnt hb5 hw5 hk5 hyc hy c4 HL
  go_wp2_with fail
  refine HZ5.out.mono ?_
  rintro e w6 ⟨rfl, hr⟩
  have HB6 := Lib.hid (hr.blk HB5.out (by omega))
  have z6 := Lib.hid (hr.blk z5.out (by omega))
  have R6 := Lib.hid (R5.out.then hr)
  have HS6 := Lib.hid (HSm.out.row hr.2 (by omega))
  clear hr c5
  go_wp2_with (first
    | (refine wpList_load_row rfl 33 (.tmp 3) rfl (w.heap.size + 1) rfl 33 y.c.toArray (0, 0) _ HB6.out Tryz.underlying33 rfl (by rw [Pm.c_size]; exact pred_size) ?_)
    | (refine wpList_store_row rfl 33 (.tmp 4) (.tmp 17) rfl (w.heap.size + 1 + 1) y.c.toArray rfl rfl 33 z10 z6.out (by rw [Pm.c_size]; exact pred_size) (by rw [Pm.c_size]; rfl) y.c_all ?_))
  rw [HA2]
  obtain ⟨hp, hb⟩ := PrGo.ret (r := (s5.need bShut, .mk 5 col 0 ⟨0, 0, ⟨#[]⟩⟩ ⟨#[]⟩ acc [] pos)) HS.out y (by rw [HY.out]; rfl) (HS6.out.mono (fun j _ hj => ⟨by omega, by omega⟩)) R6.out (Nat.le_trans (Nat.le_succ _) (Nat.le_succ _)) z6.out
  exact bodyPost_ret (results_pm rfl _ _ (w.heap.size + 1 + 1) _ rfl hb) rfl hp
end Go.Proofs.YtjaclmoobfeikaaGreatDoor
namespace Go.Proofs.YtjaclmoobfeikaaGreatDoor
open Go.RowKit

theorem ten_of {w : World} {b : Nat} {v0 v1 v2 v3 v4 v5 v6 v7 v8 v9 : Value} {T : TypeId} (h : w.heap[b]? = some (.cells #[v0, v1, v2, v3, v4, v5, v6, v7, v8, v9] T (0, 0))) : (w.cell? ⟨b, 0, none⟩ = some v0 ∧ w.cell? ⟨b, 1, none⟩ = some v1 ∧ w.cell? ⟨b, 2, none⟩ = some v2 ∧ w.cell? ⟨b, 3, none⟩ = some v3 ∧ w.cell? ⟨b, 4, none⟩ = some v4) ∧ (w.cell? ⟨b, 5, none⟩ = some v5 ∧ w.cell? ⟨b, 6, none⟩ = some v6 ∧ w.cell? ⟨b, 7, none⟩ = some v7 ∧ w.cell? ⟨b, 8, none⟩ = some v8 ∧ w.cell? ⟨b, 9, none⟩ = some v9) := by
  have c0 := cell_of_row _ _ 0 _ _ _ h
  have c1 := cell_of_row _ _ 1 _ _ _ h
  have c2 := cell_of_row _ _ 2 _ _ _ h
  have c3 := cell_of_row _ _ 3 _ _ _ h
  have c4 := cell_of_row _ _ 4 _ _ _ h
  have c5 := cell_of_row _ _ 5 _ _ _ h
  have c6 := cell_of_row _ _ 6 _ _ _ h
  have c7 := cell_of_row _ _ 7 _ _ _ h
  have c8 := cell_of_row _ _ 8 _ _ _ h
  have c9 := cell_of_row _ _ 9 _ _ _ h
  simp at c0 c1 c2 c3 c4 c5 c6 c7 c8 c9
  exact ⟨⟨c0, c1, c2, c3, c4⟩, c5, c6, c7, c8, c9⟩
theorem cells_block {S : Nat → Prop} {w : World} {g : Nat} {xs : List Value} {T : TypeId} (h : w.heap[g]? = some (.cells xs.toArray T (0, 0))) (hS : S g) : CellsS S w (some ⟨g, 0, Option.none⟩) xs :=
  .inr ⟨g, 0, rfl, hS, (Array.getElem?_eq_some_iff.1 h).1, fun j u hj => by
    rw [Nat.zero_add, cell_of_row _ _ j _ _ _ h]
    simpa using hj⟩
theorem alloc2b (w : World) (o1 o2 : Obj) : ((w.alloc o1).alloc o2).heap[w.heap.size]? = some o1 ∧ ((w.alloc o1).alloc o2).heap[w.heap.size + 1]? = some o2 ∧ w.grownBy ((w.alloc o1).alloc o2) none :=
  ⟨heap_alloc2_old w _ _, heap_alloc2_new w _ _, (World.grownBy_alloc w o1 none).trans (World.grownBy_alloc _ o2 none)⟩
/-- A comparison of a column with a literal. -/
def cmpC (col : ByteArray) (r : Nat) (k n : Int) (t : ByteArray) (pos : Nat) : Array Value := #[.int .i64 3, .string col, .int .i64 r, .int .i64 k, .int .i64 n, .string t, .string ⟨#[]⟩, .slice Option.none 0 0, .slice Option.none 0 0, .int .i64 pos]
theorem set5 {w : World} {g : Nat} {col : ByteArray} {pos r : Nat} {k n : Int} {t : ByteArray} (h : w.heap[g]? = some (.cells (asC col pos) 33 (0, 0))) : (((((w.setCell ⟨g, 0, none⟩ (.int .i64 3)).setCell ⟨g, 2, none⟩ (.int .i64 r)).setCell ⟨g, 3, none⟩ (.int .i64 k)).setCell ⟨g, 4, none⟩ (.int .i64 n)).setCell ⟨g, 5, none⟩ (.string t)).heap[g]? = some (.cells (cmpC col r k n t pos) 33 (0, 0)) := by
  have h0 := heap_setCell_same _ _ 0 _ _ (.int .i64 3) h
  have h1 := heap_setCell_same _ _ 2 _ _ (.int .i64 r) h0
  have h2 := heap_setCell_same _ _ 3 _ _ (.int .i64 k) h1
  have h3 := heap_setCell_same _ _ 4 _ _ (.int .i64 n) h2
  have h4 := heap_setCell_same _ _ 5 _ _ (.string t) h3
  simpa [asC, cmpC] using h4
theorem grown5 (w : World) (g : Nat) (u0 u1 u2 u3 u4 : Value) : w.grownBy (((((w.setCell ⟨g, 0, none⟩ u0).setCell ⟨g, 2, none⟩ u1).setCell ⟨g, 3, none⟩ u2).setCell ⟨g, 4, none⟩ u3).setCell ⟨g, 5, none⟩ u4) (some g) :=
  grown_setX (grown_setX (grown_setX (grown_setX (grown_cellR w g 0 u0) 2 u1) 3 u2) 4 u3) 5 u4
theorem blk_row {w w' : World} {g g' : Nat} {o : Obj} (h : w.grownBy w' (some g')) (hg : w.heap[g]? = some o) (hne : g ≠ g') : w'.heap[g]? = some o := (h.block g (Array.getElem?_eq_some_iff.1 hg).1 (by simp; exact hne)).trans hg
set_option maxRecDepth 100000 in
set_option maxHeartbeats 6400000 in
theorem pbetween_any (R b deep : Nat) (s : RS) (col : ByteArray) (pos : Nat) (w : World) (h : RdA R b deep s w) (hc : s.comes bIn = false) :
    Calls Tryz.prog 157 #[.pointer (some ⟨R, 0, none⟩), .agg (asC col pos)] w (PrGo R b deep (amongL col pos s) w) := by
  have HS := Lib.hid h
  have HT := Lib.hid (fun W (hW : w.grownBy W none) => took_no R b deep s bIn W (h.keep hW) (by decide) hc)
  have HA := Lib.hid (show amongL col pos s = (((s.need bBetween).literal.1.need bAnd).literal.1, .mk 8 ⟨#[]⟩ 0 ⟨0, 0, ⟨#[]⟩⟩ ⟨#[]⟩ [] [.mk 3 col 6 (s.need bBetween).literal.2 ⟨#[]⟩ [] [] pos, .mk 3 col 4 ((s.need bBetween).literal.1.need bAnd).literal.2 ⟨#[]⟩ [] [] pos] pos) from by unfold amongL; rw [if_neg (by simp [hc])])
  have HB := Lib.hid (fun st W (hW : RdA R b deep st W) => need_any R b deep st bBetween W hW (by decide))
  have HN := Lib.hid (fun st W (hW : RdA R b deep st W) => need_any R b deep st bAnd W hW (by decide))
  have HL1 := Lib.hid (fun W (hW : RdA R b deep (s.need bBetween) W) => plit_any R b deep _ W hW)
  obtain ⟨⟨s1, k1, n1, t1⟩, q1⟩ : ∃ y, (s.need bBetween).literal = y := ⟨_, rfl⟩
  rw [q1] at HA HL1
  simp only [vCT] at HA HL1
  have HL2 := Lib.hid (fun W (hW : RdA R b deep (s1.need bAnd) W) => plit_any R b deep _ W hW)
  obtain ⟨⟨s2, k2, n2, t2⟩, q2⟩ : ∃ y, (s1.need bAnd).literal = y := ⟨_, rfl⟩
  rw [q2] at HA HL2
  simp only [vCT] at HA HL2
  clear q1 q2
  have hR := h.lt'
  unfold asC
  clear h hc
  go_enter Tryz.func157, Tryz.ntmps157
  obtain ⟨e0, e1, e2, eg, es⟩ := alloc3 w (.cells #[.pointer (some ⟨R, 0, none⟩)] 127) (.cells (asC col pos) 33) (.cells z10 33)
  have E := Lib.hid (And.intro e0 (And.intro e1 (And.intro e2 (And.intro eg es))))
  clear e0 e1 e2 eg es
  go_wp2_with fail
  refine (HT.out _ E.out.2.2.2.1).mono ?_
  rintro e w2 ⟨rfl, hr⟩
  have x0 := hr.blk E.out.1 (by omega)
  have X1 := Lib.hid (hr.blk E.out.2.1 (by omega))
  have x2 := Lib.hid (hr.blk E.out.2.2.1 (by omega))
  have X0 := Lib.hid x0
  have R2 := Lib.hid (show RdGo R b deep s w w2 from ⟨hr.1, E.out.2.2.2.1.trans' hr.2⟩)
  have l2 : w.heap.size + 3 ≤ w2.heap.size := by have := E.out.2.2.2.2; have := hr.2.size; omega
  have c0 := cell_of_row _ _ 0 _ _ _ x0
  simp at c0
  clear hr x0
  go_wp2_with fail
  refine (HB.out _ _ R2.out.1).mono ?_
  rintro e w3 ⟨rfl, hr⟩
  have Y0 := Lib.hid (hr.blk X0.out (by omega))
  have y1 := hr.blk X1.out (by omega)
  have Y2 := Lib.hid (hr.blk x2.out (by omega))
  have Y1 := Lib.hid y1
  have R3 := Lib.hid (R2.out.then hr)
  have l3 : w.heap.size + 3 ≤ w3.heap.size := by have := hr.2.size; omega
  obtain ⟨⟨d0, d1, d2, d3, d4⟩, d5, d6, d7, d8, d9⟩ := ten_of (show w3.heap[w.heap.size + 1]? = some (.cells #[.int .i64 0, .string col, .int .i64 0, .int .i64 0, .int .i64 0, .string ⟨#[]⟩, .string ⟨#[]⟩, .slice Option.none 0 0, .slice Option.none 0 0, .int .i64 pos] 33 (0, 0)) from y1)
  have k0 := cell_of_row _ _ 0 _ _ _ Y0.out
  simp at k0
  have lt3 : w.heap.size + 1 < w3.heap.size := by omega
  have ya := fun o => blk_grown (World.grownBy_alloc w3 o none) y1
  have yb := fun o o' => blk_grown (World.grownBy_alloc (w3.alloc o) o' none) (ya o)
  obtain ⟨⟨ta00, ta01, ta02, ta03, ta04⟩, ta05, ta06, ta07, ta08, ta09⟩ := ten_of (show (w3.alloc (.cells #[.int .i64 0, .string ⟨#[]⟩, .int .i64 0, .int .i64 0, .int .i64 0, .string ⟨#[]⟩, .string ⟨#[]⟩, .slice Option.none 0 0, .slice Option.none 0 0, .int .i64 0] 33)).drew.heap[w.heap.size + 1]? = some (.cells #[.int .i64 0, .string col, .int .i64 0, .int .i64 0, .int .i64 0, .string ⟨#[]⟩, .string ⟨#[]⟩, .slice Option.none 0 0, .slice Option.none 0 0, .int .i64 pos] 33 (0, 0)) from ya _)
  obtain ⟨⟨tb10, tb11, tb12, tb13, tb14⟩, tb15, tb16, tb17, tb18, tb19⟩ := ten_of (show ((w3.alloc (.cells #[.int .i64 0, .string ⟨#[]⟩, .int .i64 0, .int .i64 0, .int .i64 0, .string ⟨#[]⟩, .string ⟨#[]⟩, .slice Option.none 0 0, .slice Option.none 0 0, .int .i64 0] 33)).alloc (.cells #[.int .i64 0, .string ⟨#[]⟩, .int .i64 0, .int .i64 0, .int .i64 0, .string ⟨#[]⟩, .string ⟨#[]⟩, .slice Option.none 0 0, .slice Option.none 0 0, .int .i64 0] 33)).drew.heap[w.heap.size + 1]? = some (.cells #[.int .i64 0, .string col, .int .i64 0, .int .i64 0, .int .i64 0, .string ⟨#[]⟩, .string ⟨#[]⟩, .slice Option.none 0 0, .slice Option.none 0 0, .int .i64 pos] 33 (0, 0)) from yb _ _)
  obtain ⟨⟨tb20, tb21, tb22, tb23, tb24⟩, tb25, tb26, tb27, tb28, tb29⟩ := ten_of (show ((w3.alloc (.cells #[.int .i64 0, .string ⟨#[]⟩, .int .i64 0, .int .i64 0, .int .i64 0, .string ⟨#[]⟩, .string ⟨#[]⟩, .slice Option.none 0 0, .slice Option.none 0 0, .int .i64 0] 33)).alloc (.cells #[.int .i64 0, .string col, .int .i64 0, .int .i64 0, .int .i64 0, .string ⟨#[]⟩, .string ⟨#[]⟩, .slice Option.none 0 0, .slice Option.none 0 0, .int .i64 pos] 33)).drew.heap[w.heap.size + 1]? = some (.cells #[.int .i64 0, .string col, .int .i64 0, .int .i64 0, .int .i64 0, .string ⟨#[]⟩, .string ⟨#[]⟩, .slice Option.none 0 0, .slice Option.none 0 0, .int .i64 pos] 33 (0, 0)) from yb _ _)
  obtain ⟨⟨ta20, ta21, ta22, ta23, ta24⟩, ta25, ta26, ta27, ta28, ta29⟩ := ten_of (show (w3.alloc (.cells #[.int .i64 0, .string col, .int .i64 0, .int .i64 0, .int .i64 0, .string ⟨#[]⟩, .string ⟨#[]⟩, .slice Option.none 0 0, .slice Option.none 0 0, .int .i64 pos] 33)).drew.heap[w.heap.size + 1]? = some (.cells #[.int .i64 0, .string col, .int .i64 0, .int .i64 0, .int .i64 0, .string ⟨#[]⟩, .string ⟨#[]⟩, .slice Option.none 0 0, .slice Option.none 0 0, .int .i64 pos] 33 (0, 0)) from ya _)
  obtain ⟨⟨tb30, tb31, tb32, tb33, tb34⟩, tb35, tb36, tb37, tb38, tb39⟩ := ten_of (show ((w3.alloc (.cells #[.int .i64 0, .string col, .int .i64 0, .int .i64 0, .int .i64 0, .string ⟨#[]⟩, .string ⟨#[]⟩, .slice Option.none 0 0, .slice Option.none 0 0, .int .i64 pos] 33)).alloc (.cells #[.int .i64 0, .string ⟨#[]⟩, .int .i64 0, .int .i64 0, .int .i64 0, .string ⟨#[]⟩, .string ⟨#[]⟩, .slice Option.none 0 0, .slice Option.none 0 0, .int .i64 0] 33)).drew.heap[w.heap.size + 1]? = some (.cells #[.int .i64 0, .string col, .int .i64 0, .int .i64 0, .int .i64 0, .string ⟨#[]⟩, .string ⟨#[]⟩, .slice Option.none 0 0, .slice Option.none 0 0, .int .i64 pos] 33 (0, 0)) from yb _ _)
  obtain ⟨⟨tb40, tb41, tb42, tb43, tb44⟩, tb45, tb46, tb47, tb48, tb49⟩ := ten_of (show ((w3.alloc (.cells #[.int .i64 0, .string col, .int .i64 0, .int .i64 0, .int .i64 0, .string ⟨#[]⟩, .string ⟨#[]⟩, .slice Option.none 0 0, .slice Option.none 0 0, .int .i64 pos] 33)).alloc (.cells #[.int .i64 0, .string col, .int .i64 0, .int .i64 0, .int .i64 0, .string ⟨#[]⟩, .string ⟨#[]⟩, .slice Option.none 0 0, .slice Option.none 0 0, .int .i64 pos] 33)).drew.heap[w.heap.size + 1]? = some (.cells #[.int .i64 0, .string col, .int .i64 0, .int .i64 0, .int .i64 0, .string ⟨#[]⟩, .string ⟨#[]⟩, .slice Option.none 0 0, .slice Option.none 0 0, .int .i64 pos] 33 (0, 0)) from yb _ _)
  clear hr y1 c0 ya yb
  go_wp2_with fail
  go_region
  all_goals
    clear ta00 ta01 ta02 ta03 ta04 ta05 ta06 ta07 ta08 ta09 ta20 ta21 ta22 ta23 ta24 ta25 ta26 ta27 ta28 ta29
    clear tb10 tb11 tb12 tb13 tb14 tb15 tb16 tb17 tb18 tb19 tb20 tb21 tb22 tb23 tb24 tb25 tb26 tb27 tb28 tb29 tb30 tb31 tb32 tb33 tb34 tb35 tb36 tb37 tb38 tb39 tb40 tb41 tb42 tb43 tb44 tb45 tb46 tb47 tb48 tb49
    clear d0 d1 d2 d3 d4 d5 d6 d7 d8 d9 k0 lt3
    change Exit.then _ _ _ _ ((w3.alloc (.cells (asC col pos) 33)).alloc (.cells (asC col pos) 33)).drew
  · have W4 := Lib.hid (And.intro (show ((w3.alloc (.cells (asC col pos) 33)).alloc (.cells (asC col pos) 33)).drew.heap[w3.heap.size]? = some (.cells (asC col pos) 33 (0, 0)) from (alloc2b w3 _ _).1) (And.intro (show ((w3.alloc (.cells (asC col pos) 33)).alloc (.cells (asC col pos) 33)).drew.heap[w3.heap.size + 1]? = some (.cells (asC col pos) 33 (0, 0)) from (alloc2b w3 _ _).2.1) (show w3.grownBy ((w3.alloc (.cells (asC col pos) 33)).alloc (.cells (asC col pos) 33)).drew none from grown_drewT (alloc2b w3 _ _).2.2)))
    have l4 : ((w3.alloc (.cells (asC col pos) 33)).alloc (.cells (asC col pos) 33)).drew.heap.size = w3.heap.size + 1 + 1 := by rw [heap_drew]; simp
    generalize ((w3.alloc (.cells (asC col pos) 33)).alloc (.cells (asC col pos) 33)).drew = w4 at *
    have R4 := Lib.hid (R3.out.keep W4.out.2.2)
    have B0 := Lib.hid (blk_grown W4.out.2.2 Y0.out)
    have B1 := Lib.hid (blk_grown W4.out.2.2 Y1.out)
    have B2 := Lib.hid (blk_grown W4.out.2.2 Y2.out)
    have b0 := cell_of_row _ _ 0 _ _ _ B0.out
    simp at b0
    go_wp2_with fail
    refine (HL1.out _ R4.out.1).mono ?_
    rintro e w5 ⟨rfl, hr⟩
    have C0 := Lib.hid (hr.blk B0.out (by omega))
    have C1 := Lib.hid (hr.blk B1.out (by omega))
    have C2 := Lib.hid (hr.blk B2.out (by omega))
    have C5 := Lib.hid (hr.blk W4.out.1 (by omega))
    have C6 := Lib.hid (hr.blk W4.out.2.1 (by omega))
    have R5 := Lib.hid (R4.out.then hr)
    have l5 : w3.heap.size + 1 + 1 ≤ w5.heap.size := by have := hr.2.size; omega
    obtain ⟨⟨d0, _, d2, d3, d4⟩, d5, _, _, _, _⟩ := ten_of (show w5.heap[w3.heap.size]? = some (.cells #[.int .i64 0, .string col, .int .i64 0, .int .i64 0, .int .i64 0, .string ⟨#[]⟩, .string ⟨#[]⟩, .slice Option.none 0 0, .slice Option.none 0 0, .int .i64 pos] 33 (0, 0)) from C5.out)
    have f0 := frozen_of_row _ _ 0 _ _ C5.out
    have f2 := frozen_of_row _ _ 2 _ _ C5.out
    have f3 := frozen_of_row _ _ 3 _ _ C5.out
    have f4 := frozen_of_row _ _ 4 _ _ C5.out
    have f5 := frozen_of_row _ _ 5 _ _ C5.out
    have c0 := cell_of_row _ _ 0 _ _ _ C0.out
    simp at c0
    clear hr b0
    go_upto_region 10 with fail
    have gS := Lib.hid (grown5 w5 (w3.heap.size) (.int .i64 3) (.int .i64 6) (.int .i64 k1) (.int .i64 n1) (.string t1))
    have D5 := Lib.hid (set5 (r := 6) (k := k1) (n := n1) (t := t1) C5.out)
    simp only [show ((6 : Nat) : Int) = 6 from rfl] at D5
    generalize ((((w5.setCell ⟨w3.heap.size, 0, none⟩ (.int .i64 3)).setCell ⟨w3.heap.size, 2, none⟩ (.int .i64 6)).setCell ⟨w3.heap.size, 3, none⟩ (.int .i64 k1)).setCell ⟨w3.heap.size, 4, none⟩ (.int .i64 n1)).setCell ⟨w3.heap.size, 5, none⟩ (.string t1) = w6 at *
    have D0 := Lib.hid (blk_row gS.out C0.out (by omega))
    have D1 := Lib.hid (blk_row gS.out C1.out (by omega))
    have D2 := Lib.hid (blk_row gS.out C2.out (by omega))
    have D6 := Lib.hid (blk_row gS.out C6.out (by omega))
    have R6 := Lib.hid (RdGo.stored HS.out R5.out (g := w3.heap.size) (by omega) gS.out)
    have l6 : w3.heap.size + 1 + 1 ≤ w6.heap.size := Nat.le_trans l5 gS.out.size
    clear d0 d2 d3 d4 d5 f0 f2 f3 f4 f5 c0
    have c0 := cell_of_row _ _ 0 _ _ _ D0.out
    simp at c0
    go_wp2_with fail
    refine (HN.out _ _ R6.out.1).mono ?_
    rintro e w7 ⟨rfl, hr⟩
    have E0 := Lib.hid (hr.blk D0.out (by omega))
    have E1 := Lib.hid (hr.blk D1.out (by omega))
    have E2 := Lib.hid (hr.blk D2.out (by omega))
    have E5 := Lib.hid (hr.blk D5.out (by omega))
    have E6 := Lib.hid (hr.blk D6.out (by omega))
    have R7 := Lib.hid (R6.out.then hr)
    have l7 : w3.heap.size + 1 + 1 ≤ w7.heap.size := Nat.le_trans l6 hr.2.size
    clear hr c0
    have c0 := cell_of_row _ _ 0 _ _ _ E0.out
    simp at c0
    go_wp2_with fail
    refine (HL2.out _ R7.out.1).mono ?_
    rintro e w8 ⟨rfl, hr⟩
    have F1 := Lib.hid (hr.blk E1.out (by omega))
    have F2 := Lib.hid (hr.blk E2.out (by omega))
    have F5 := Lib.hid (hr.blk E5.out (by omega))
    have F6 := Lib.hid (hr.blk E6.out (by omega))
    have R8 := Lib.hid (R7.out.then hr)
    have l8 : w3.heap.size + 1 + 1 ≤ w8.heap.size := Nat.le_trans l7 hr.2.size
    obtain ⟨⟨d0, _, d2, d3, d4⟩, d5, _, _, _, _⟩ := ten_of (show w8.heap[w3.heap.size + 1]? = some (.cells #[.int .i64 0, .string col, .int .i64 0, .int .i64 0, .int .i64 0, .string ⟨#[]⟩, .string ⟨#[]⟩, .slice Option.none 0 0, .slice Option.none 0 0, .int .i64 pos] 33 (0, 0)) from F6.out)
    have f0 := frozen_of_row _ _ 0 _ _ F6.out
    have f2 := frozen_of_row _ _ 2 _ _ F6.out
    have f3 := frozen_of_row _ _ 3 _ _ F6.out
    have f4 := frozen_of_row _ _ 4 _ _ F6.out
    have f5 := frozen_of_row _ _ 5 _ _ F6.out
    clear hr c0
    go_upto_region 12 with fail
    have gS2 := Lib.hid (grown5 w8 (w3.heap.size + 1) (.int .i64 3) (.int .i64 4) (.int .i64 k2) (.int .i64 n2) (.string t2))
    have H6 := Lib.hid (set5 (r := 4) (k := k2) (n := n2) (t := t2) F6.out)
    simp only [show ((4 : Nat) : Int) = 4 from rfl] at H6
    generalize ((((w8.setCell ⟨w3.heap.size + 1, 0, none⟩ (.int .i64 3)).setCell ⟨w3.heap.size + 1, 2, none⟩ (.int .i64 4)).setCell ⟨w3.heap.size + 1, 3, none⟩ (.int .i64 k2)).setCell ⟨w3.heap.size + 1, 4, none⟩ (.int .i64 n2)).setCell ⟨w3.heap.size + 1, 5, none⟩ (.string t2) = w9 at *
    have h1 := blk_row gS2.out F1.out (show w.heap.size + 1 ≠ w3.heap.size + 1 by omega)
    have H2 := Lib.hid (blk_row gS2.out F2.out (by omega))
    have h5 := blk_row gS2.out F5.out (show w3.heap.size ≠ w3.heap.size + 1 by omega)
    have R9 := Lib.hid (RdGo.stored HS.out R8.out (g := w3.heap.size + 1) (by omega) gS2.out)
    have l9 : w3.heap.size + 1 + 1 ≤ w9.heap.size := Nat.le_trans l8 gS2.out.size
    clear d0 d2 d3 d4 d5 f0 f2 f3 f4 f5
    obtain ⟨⟨p0, p1, p2, p3, p4⟩, p5, p6, p7, p8, p9⟩ := ten_of (show w9.heap[w3.heap.size]? = some (.cells #[.int .i64 3, .string col, .int .i64 (6 : Nat), .int .i64 k1, .int .i64 n1, .string t1, .string ⟨#[]⟩, .slice Option.none 0 0, .slice Option.none 0 0, .int .i64 pos] 33 (0, 0)) from h5)
    obtain ⟨⟨r0, r1, r2, r3, r4⟩, r5, r6, r7, r8, r9⟩ := ten_of (show w9.heap[w3.heap.size + 1]? = some (.cells #[.int .i64 3, .string col, .int .i64 (4 : Nat), .int .i64 k2, .int .i64 n2, .string t2, .string ⟨#[]⟩, .slice Option.none 0 0, .slice Option.none 0 0, .int .i64 pos] 33 (0, 0)) from H6.out)
    have x9 := cell_of_row _ _ 9 _ _ _ h1
    simp [asC] at x9
    have lt9 : w.heap.size + 1 < w9.heap.size := by omega
    clear h1 h5
    go_wp2_with (refine wpList_store_row rfl 33 (.tmp 4) (.tmp 39) rfl (w.heap.size + 1 + 1) (Pm.mk 8 ⟨#[]⟩ 0 ⟨0, 0, ⟨#[]⟩⟩ ⟨#[]⟩ Option.none 0 [] (some ⟨w9.heap.size, 0, Option.none⟩) 2 [.mk 3 col 6 ⟨k1, n1, t1⟩ ⟨#[]⟩ Option.none 0 [] Option.none 0 [] pos, .mk 3 col 4 ⟨k2, n2, t2⟩ ⟨#[]⟩ Option.none 0 [] Option.none 0 [] pos] pos).c.toArray rfl rfl 33 z10 (blk_grown (World.grownBy_alloc w9 _ none) H2.out) (by rw [Pm.c_size]; exact pred_size) (by rw [Pm.c_size]; rfl) (Pm.c_all _) ?_)
    have hk := heap_alloc_new w9 (.cells ([Pm.mk 3 col 6 ⟨k1, n1, t1⟩ ⟨#[]⟩ Option.none 0 [] Option.none 0 [] pos, Pm.mk 3 col 4 ⟨k2, n2, t2⟩ ⟨#[]⟩ Option.none 0 [] Option.none 0 [] pos].flatMap Pm.c).toArray 33)
    have z2 := blk_grown (World.grownBy_alloc w9 (.cells ([Pm.mk 3 col 6 ⟨k1, n1, t1⟩ ⟨#[]⟩ Option.none 0 [] Option.none 0 [] pos, Pm.mk 3 col 4 ⟨k2, n2, t2⟩ ⟨#[]⟩ Option.none 0 [] Option.none 0 [] pos].flatMap Pm.c).toArray 33) none) H2.out
    have R10 := R9.out.keep (World.grownBy_alloc w9 (.cells ([Pm.mk 3 col 6 ⟨k1, n1, t1⟩ ⟨#[]⟩ Option.none 0 [] Option.none 0 [] pos, Pm.mk 3 col 4 ⟨k2, n2, t2⟩ ⟨#[]⟩ Option.none 0 [] Option.none 0 [] pos].flatMap Pm.c).toArray 33) none)
    rw [HA.out]
    obtain ⟨hp, hb⟩ := PrGo.ret (r := (s2, .mk 8 ⟨#[]⟩ 0 ⟨0, 0, ⟨#[]⟩⟩ ⟨#[]⟩ [] [.mk 3 col 6 ⟨k1, n1, t1⟩ ⟨#[]⟩ [] [] pos, .mk 3 col 4 ⟨k2, n2, t2⟩ ⟨#[]⟩ [] [] pos] pos)) HS.out (Pm.mk 8 ⟨#[]⟩ 0 ⟨0, 0, ⟨#[]⟩⟩ ⟨#[]⟩ Option.none 0 [] (some ⟨w9.heap.size, 0, Option.none⟩) 2 [.mk 3 col 6 ⟨k1, n1, t1⟩ ⟨#[]⟩ Option.none 0 [] Option.none 0 [] pos, .mk 3 col 4 ⟨k2, n2, t2⟩ ⟨#[]⟩ Option.none 0 [] Option.none 0 [] pos] pos) rfl ⟨RwS.nil _ _ _, Nat.le_refl _, cells_block hk ⟨by omega, by omega⟩, Nat.le_refl _, PmS.leaf _ _ _ _ _ _ _ _ _ _ _ _, PmS.leaf _ _ _ _ _ _ _ _ _ _ _ _, trivial⟩ R10 (Nat.le_trans (Nat.le_succ _) (Nat.le_succ _)) z2
    exact bodyPost_ret (results_pm rfl _ _ (w.heap.size + 1 + 1) _ rfl hb) rfl hp
  · have W4 := Lib.hid (And.intro (show ((w3.alloc (.cells (asC col pos) 33)).alloc (.cells (asC col pos) 33)).drew.heap[w3.heap.size]? = some (.cells (asC col pos) 33 (0, 0)) from (alloc2b w3 _ _).1) (And.intro (show ((w3.alloc (.cells (asC col pos) 33)).alloc (.cells (asC col pos) 33)).drew.heap[w3.heap.size + 1]? = some (.cells (asC col pos) 33 (0, 0)) from (alloc2b w3 _ _).2.1) (show w3.grownBy ((w3.alloc (.cells (asC col pos) 33)).alloc (.cells (asC col pos) 33)).drew none from grown_drewT (alloc2b w3 _ _).2.2)))
    have l4 : ((w3.alloc (.cells (asC col pos) 33)).alloc (.cells (asC col pos) 33)).drew.heap.size = w3.heap.size + 1 + 1 := by rw [heap_drew]; simp
    generalize ((w3.alloc (.cells (asC col pos) 33)).alloc (.cells (asC col pos) 33)).drew = w4 at *
    have R4 := Lib.hid (R3.out.keep W4.out.2.2)
    have B0 := Lib.hid (blk_grown W4.out.2.2 Y0.out)
    have B1 := Lib.hid (blk_grown W4.out.2.2 Y1.out)
    have B2 := Lib.hid (blk_grown W4.out.2.2 Y2.out)
    have b0 := cell_of_row _ _ 0 _ _ _ B0.out
    simp at b0
    go_wp2_with fail
    refine (HL1.out _ R4.out.1).mono ?_
    rintro e w5 ⟨rfl, hr⟩
    have C0 := Lib.hid (hr.blk B0.out (by omega))
    have C1 := Lib.hid (hr.blk B1.out (by omega))
    have C2 := Lib.hid (hr.blk B2.out (by omega))
    have C5 := Lib.hid (hr.blk W4.out.2.1 (by omega))
    have C6 := Lib.hid (hr.blk W4.out.1 (by omega))
    have R5 := Lib.hid (R4.out.then hr)
    have l5 : w3.heap.size + 1 + 1 ≤ w5.heap.size := by have := hr.2.size; omega
    obtain ⟨⟨d0, _, d2, d3, d4⟩, d5, _, _, _, _⟩ := ten_of (show w5.heap[w3.heap.size + 1]? = some (.cells #[.int .i64 0, .string col, .int .i64 0, .int .i64 0, .int .i64 0, .string ⟨#[]⟩, .string ⟨#[]⟩, .slice Option.none 0 0, .slice Option.none 0 0, .int .i64 pos] 33 (0, 0)) from C5.out)
    have f0 := frozen_of_row _ _ 0 _ _ C5.out
    have f2 := frozen_of_row _ _ 2 _ _ C5.out
    have f3 := frozen_of_row _ _ 3 _ _ C5.out
    have f4 := frozen_of_row _ _ 4 _ _ C5.out
    have f5 := frozen_of_row _ _ 5 _ _ C5.out
    have c0 := cell_of_row _ _ 0 _ _ _ C0.out
    simp at c0
    clear hr b0
    go_upto_region 10 with fail
    have gS := Lib.hid (grown5 w5 (w3.heap.size + 1) (.int .i64 3) (.int .i64 6) (.int .i64 k1) (.int .i64 n1) (.string t1))
    have D5 := Lib.hid (set5 (r := 6) (k := k1) (n := n1) (t := t1) C5.out)
    simp only [show ((6 : Nat) : Int) = 6 from rfl] at D5
    generalize ((((w5.setCell ⟨w3.heap.size + 1, 0, none⟩ (.int .i64 3)).setCell ⟨w3.heap.size + 1, 2, none⟩ (.int .i64 6)).setCell ⟨w3.heap.size + 1, 3, none⟩ (.int .i64 k1)).setCell ⟨w3.heap.size + 1, 4, none⟩ (.int .i64 n1)).setCell ⟨w3.heap.size + 1, 5, none⟩ (.string t1) = w6 at *
    have D0 := Lib.hid (blk_row gS.out C0.out (by omega))
    have D1 := Lib.hid (blk_row gS.out C1.out (by omega))
    have D2 := Lib.hid (blk_row gS.out C2.out (by omega))
    have D6 := Lib.hid (blk_row gS.out C6.out (by omega))
    have R6 := Lib.hid (RdGo.stored HS.out R5.out (g := w3.heap.size + 1) (by omega) gS.out)
    have l6 : w3.heap.size + 1 + 1 ≤ w6.heap.size := Nat.le_trans l5 gS.out.size
    clear d0 d2 d3 d4 d5 f0 f2 f3 f4 f5 c0
    have c0 := cell_of_row _ _ 0 _ _ _ D0.out
    simp at c0
    go_wp2_with fail
    refine (HN.out _ _ R6.out.1).mono ?_
    rintro e w7 ⟨rfl, hr⟩
    have E0 := Lib.hid (hr.blk D0.out (by omega))
    have E1 := Lib.hid (hr.blk D1.out (by omega))
    have E2 := Lib.hid (hr.blk D2.out (by omega))
    have E5 := Lib.hid (hr.blk D5.out (by omega))
    have E6 := Lib.hid (hr.blk D6.out (by omega))
    have R7 := Lib.hid (R6.out.then hr)
    have l7 : w3.heap.size + 1 + 1 ≤ w7.heap.size := Nat.le_trans l6 hr.2.size
    clear hr c0
    have c0 := cell_of_row _ _ 0 _ _ _ E0.out
    simp at c0
    go_wp2_with fail
    refine (HL2.out _ R7.out.1).mono ?_
    rintro e w8 ⟨rfl, hr⟩
    have F1 := Lib.hid (hr.blk E1.out (by omega))
    have F2 := Lib.hid (hr.blk E2.out (by omega))
    have F5 := Lib.hid (hr.blk E5.out (by omega))
    have F6 := Lib.hid (hr.blk E6.out (by omega))
    have R8 := Lib.hid (R7.out.then hr)
    have l8 : w3.heap.size + 1 + 1 ≤ w8.heap.size := Nat.le_trans l7 hr.2.size
    obtain ⟨⟨d0, _, d2, d3, d4⟩, d5, _, _, _, _⟩ := ten_of (show w8.heap[w3.heap.size]? = some (.cells #[.int .i64 0, .string col, .int .i64 0, .int .i64 0, .int .i64 0, .string ⟨#[]⟩, .string ⟨#[]⟩, .slice Option.none 0 0, .slice Option.none 0 0, .int .i64 pos] 33 (0, 0)) from F6.out)
    have f0 := frozen_of_row _ _ 0 _ _ F6.out
    have f2 := frozen_of_row _ _ 2 _ _ F6.out
    have f3 := frozen_of_row _ _ 3 _ _ F6.out
    have f4 := frozen_of_row _ _ 4 _ _ F6.out
    have f5 := frozen_of_row _ _ 5 _ _ F6.out
    clear hr c0
    go_upto_region 12 with fail
    have gS2 := Lib.hid (grown5 w8 (w3.heap.size) (.int .i64 3) (.int .i64 4) (.int .i64 k2) (.int .i64 n2) (.string t2))
    have H6 := Lib.hid (set5 (r := 4) (k := k2) (n := n2) (t := t2) F6.out)
    simp only [show ((4 : Nat) : Int) = 4 from rfl] at H6
    generalize ((((w8.setCell ⟨w3.heap.size, 0, none⟩ (.int .i64 3)).setCell ⟨w3.heap.size, 2, none⟩ (.int .i64 4)).setCell ⟨w3.heap.size, 3, none⟩ (.int .i64 k2)).setCell ⟨w3.heap.size, 4, none⟩ (.int .i64 n2)).setCell ⟨w3.heap.size, 5, none⟩ (.string t2) = w9 at *
    have h1 := blk_row gS2.out F1.out (show w.heap.size + 1 ≠ w3.heap.size by omega)
    have H2 := Lib.hid (blk_row gS2.out F2.out (by omega))
    have h5 := blk_row gS2.out F5.out (show w3.heap.size + 1 ≠ w3.heap.size by omega)
    have R9 := Lib.hid (RdGo.stored HS.out R8.out (g := w3.heap.size) (by omega) gS2.out)
    have l9 : w3.heap.size + 1 + 1 ≤ w9.heap.size := Nat.le_trans l8 gS2.out.size
    clear d0 d2 d3 d4 d5 f0 f2 f3 f4 f5
    obtain ⟨⟨p0, p1, p2, p3, p4⟩, p5, p6, p7, p8, p9⟩ := ten_of (show w9.heap[w3.heap.size + 1]? = some (.cells #[.int .i64 3, .string col, .int .i64 (6 : Nat), .int .i64 k1, .int .i64 n1, .string t1, .string ⟨#[]⟩, .slice Option.none 0 0, .slice Option.none 0 0, .int .i64 pos] 33 (0, 0)) from h5)
    obtain ⟨⟨r0, r1, r2, r3, r4⟩, r5, r6, r7, r8, r9⟩ := ten_of (show w9.heap[w3.heap.size]? = some (.cells #[.int .i64 3, .string col, .int .i64 (4 : Nat), .int .i64 k2, .int .i64 n2, .string t2, .string ⟨#[]⟩, .slice Option.none 0 0, .slice Option.none 0 0, .int .i64 pos] 33 (0, 0)) from H6.out)
    have x9 := cell_of_row _ _ 9 _ _ _ h1
    simp [asC] at x9
    have lt9 : w.heap.size + 1 < w9.heap.size := by omega
    clear h1 h5
    go_wp2_with (refine wpList_store_row rfl 33 (.tmp 4) (.tmp 39) rfl (w.heap.size + 1 + 1) (Pm.mk 8 ⟨#[]⟩ 0 ⟨0, 0, ⟨#[]⟩⟩ ⟨#[]⟩ Option.none 0 [] (some ⟨w9.heap.size, 0, Option.none⟩) 2 [.mk 3 col 6 ⟨k1, n1, t1⟩ ⟨#[]⟩ Option.none 0 [] Option.none 0 [] pos, .mk 3 col 4 ⟨k2, n2, t2⟩ ⟨#[]⟩ Option.none 0 [] Option.none 0 [] pos] pos).c.toArray rfl rfl 33 z10 (blk_grown (World.grownBy_alloc w9 _ none) H2.out) (by rw [Pm.c_size]; exact pred_size) (by rw [Pm.c_size]; rfl) (Pm.c_all _) ?_)
    have hk := heap_alloc_new w9 (.cells ([Pm.mk 3 col 6 ⟨k1, n1, t1⟩ ⟨#[]⟩ Option.none 0 [] Option.none 0 [] pos, Pm.mk 3 col 4 ⟨k2, n2, t2⟩ ⟨#[]⟩ Option.none 0 [] Option.none 0 [] pos].flatMap Pm.c).toArray 33)
    have z2 := blk_grown (World.grownBy_alloc w9 (.cells ([Pm.mk 3 col 6 ⟨k1, n1, t1⟩ ⟨#[]⟩ Option.none 0 [] Option.none 0 [] pos, Pm.mk 3 col 4 ⟨k2, n2, t2⟩ ⟨#[]⟩ Option.none 0 [] Option.none 0 [] pos].flatMap Pm.c).toArray 33) none) H2.out
    have R10 := R9.out.keep (World.grownBy_alloc w9 (.cells ([Pm.mk 3 col 6 ⟨k1, n1, t1⟩ ⟨#[]⟩ Option.none 0 [] Option.none 0 [] pos, Pm.mk 3 col 4 ⟨k2, n2, t2⟩ ⟨#[]⟩ Option.none 0 [] Option.none 0 [] pos].flatMap Pm.c).toArray 33) none)
    rw [HA.out]
    obtain ⟨hp, hb⟩ := PrGo.ret (r := (s2, .mk 8 ⟨#[]⟩ 0 ⟨0, 0, ⟨#[]⟩⟩ ⟨#[]⟩ [] [.mk 3 col 6 ⟨k1, n1, t1⟩ ⟨#[]⟩ [] [] pos, .mk 3 col 4 ⟨k2, n2, t2⟩ ⟨#[]⟩ [] [] pos] pos)) HS.out (Pm.mk 8 ⟨#[]⟩ 0 ⟨0, 0, ⟨#[]⟩⟩ ⟨#[]⟩ Option.none 0 [] (some ⟨w9.heap.size, 0, Option.none⟩) 2 [.mk 3 col 6 ⟨k1, n1, t1⟩ ⟨#[]⟩ Option.none 0 [] Option.none 0 [] pos, .mk 3 col 4 ⟨k2, n2, t2⟩ ⟨#[]⟩ Option.none 0 [] Option.none 0 [] pos] pos) rfl ⟨RwS.nil _ _ _, Nat.le_refl _, cells_block hk ⟨by omega, by omega⟩, Nat.le_refl _, PmS.leaf _ _ _ _ _ _ _ _ _ _ _ _, PmS.leaf _ _ _ _ _ _ _ _ _ _ _ _, trivial⟩ R10 (Nat.le_trans (Nat.le_succ _) (Nat.le_succ _)) z2
    exact bodyPost_ret (results_pm rfl _ _ (w.heap.size + 1 + 1) _ rfl hb) rfl hp
theorem pamong_any (R b deep : Nat) (s : RS) (col : ByteArray) (pos : Nat) (w : World) (h : RdA R b deep s w) :
    Calls Tryz.prog 157 #[.pointer (some ⟨R, 0, none⟩), .agg (asC col pos)] w (PrGo R b deep (amongL col pos s) w) := by
  cases hc : s.comes bIn with
  | true => exact pin_any R b deep s col pos w h hc
  | false => exact pbetween_any R b deep s col pos w h hc
end Go.Proofs.YtjaclmoobfeikaaGreatDoor
