/- Spots: which operations are done already. What TreePlays writes into rows of its own: blocks that are overwritten. A commit on its way: what its operations make, as mathematics, and in memory. -/
import Derived.Test.YtnfpomjcofhppaaGreatDoorZb25
import Derived.Test.YtnfpomjcofhppaaGreatDoorZb20
import Derived.Deep.MidRow
import Derived.Test.YtnfpomjcofhppaaGreatDoorZb26
import Derived.Test.YtnfpomjcofhppaaGreatDoorZb19
namespace Go.Proofs.YtnfpomjcofhppaaGreatDoor
open Go.RowKit

/-- A spot: a table's number, a key. -/
structure Spt where
  i : Int
  k : Rw
instance : Inhabited Spt := ⟨⟨0, default⟩⟩
def Spt.c (x : Spt) : List Value := [.int .i64 x.i, x.k.v]
def Spt.p (x : Spt) : Int × List Vl := (x.i, x.k.l)
theorem sp_len (l : List Spt) : (l.flatMap Spt.c).length = l.length * 2 := by
  induction l with
  | nil => rfl
  | cons x l ih => rw [List.flatMap_cons, List.length_append, ih]; simp [Spt.c]; omega
theorem sp_at (l : List Spt) : ∀ i, i < l.length → (l.flatMap Spt.c)[i * 2]? = some (.int .i64 (l.getD i default).i) ∧ (l.flatMap Spt.c)[i * 2 + 1]? = some (l.getD i default).k.v := by
  induction l with
  | nil => intro i hi; simp at hi
  | cons x l ih =>
    intro i hi
    rw [List.flatMap_cons]
    match i, hi with
    | 0, _ => exact ⟨rfl, rfl⟩
    | i + 1, hi =>
      have := ih i (by simpa using hi)
      have e : ∀ o, (Spt.c x ++ l.flatMap Spt.c)[(i + 1) * 2 + o]? = (l.flatMap Spt.c)[i * 2 + o]? := fun o => by
        rw [List.getElem?_append_right (by simp [Spt.c]; omega)]
        congr 1
        simp [Spt.c]
        omega
      have e0 := e 0
      simp only [Nat.add_zero] at e0
      rw [e0, e 1]
      simpa [List.getD] using this
theorem sp_info : (Tryz.prog.info? 165).map (fun i => (i.zero, i.size, i.bytes)) = some (some (.agg #[.int .i64 0, .slice none 0 0]), 2, 32) := by kernel_rfl
set_option maxHeartbeats 1600000 in
theorem valSame_any (a a' : Option Addr) (cap cap' : Nat) (l m : List Vl) (w : World) (h : RowAt w a l) (h' : RowAt w a' m) :
    Calls Tryz.prog 66 #[.slice a l.length cap, .slice a' m.length cap'] w fun e w' => e = .returned (.bool (rowsOrd l m == 0)) ∧ w.grownBy w' none := by
  have HE := Lib.hid (equal_any a a' cap cap' l m w h h')
  generalize (rowsOrd l m == 0) = b at *
  generalize l.length = n at *
  generalize m.length = q at *
  clear h h'
  go_enter Tryz.func66, Tryz.ntmps66
  go_wp2_with fail
  refine HE.out.mono ?_
  rintro e w1 ⟨rfl, hb⟩
  have G := Lib.hid (grown_belowT hb none)
  clear hb
  go_wp2_with fail
  go_ret
  exact ⟨rfl, G.out⟩
abbrev cSp (i : Int) (a : Option Addr) (n c : Nat) : Obj := .cells #[.int .i64 i, .slice a n c] 165
set_option maxHeartbeats 3200000 in
theorem spotSame_any (i j : Int) (a a' : Option Addr) (cap cap' : Nat) (l m : List Vl) (w : World) (h : RowAt w a l) (h' : RowAt w a' m) :
    Calls Tryz.prog 78 #[.agg #[.int .i64 i, .slice a l.length cap], .agg #[.int .i64 j, .slice a' m.length cap']] w fun e w' => e = .returned (.bool ((i == j) && (rowsOrd l m == 0))) ∧ w.grownBy w' none := by
  have HS := Lib.hid (fun W (hW : w.grownBy W none) => valSame_any a a' cap cap' l m W (h.keep (below_grownT hW)) (h'.keep (below_grownT hW)))
  generalize (rowsOrd l m == 0) = b at *
  generalize l.length = n at *
  generalize m.length = q at *
  clear h h'
  have B1 := heap_alloc_new w (cSp i a n cap)
  have B2 := heap_alloc_new (w.alloc (cSp i a n cap)) (cSp j a' q cap')
  have hs1 : (w.alloc (cSp i a n cap)).heap.size = w.heap.size + 1 := by simp
  rw [hs1] at B2
  have g1 := World.grownBy_alloc (w.alloc (cSp i a n cap)) (cSp j a' q cap') none
  have K0 := Lib.hid ((World.grownBy_alloc w (cSp i a n cap) none).trans g1)
  have b0 := g1.cell (cell_of_row _ _ 0 _ _ _ B1) (by simp)
  have b1 := g1.cell (cell_of_row _ _ 1 _ _ _ B1) (by simp)
  have d0 := cell_of_row _ _ 0 _ _ _ B2
  have d1 := cell_of_row _ _ 1 _ _ _ B2
  simp at b0 b1
  clear B1 B2 g1 hs1
  by_cases hij : i = j
  · have e1 : (i == j) = true := by simp [hij]
    rw [e1]
    clear hij
    go_enter Tryz.func78, Tryz.ntmps78
    go_wp2_with fail
    refine (HS.out _ K0.out).mono ?_
    rintro e w1 ⟨rfl, hg⟩
    have G := Lib.hid (K0.out.trans hg)
    clear hg
    go_wp2_with fail
    go_ret
    exact ⟨by simp, G.out⟩
  · have e1 : (i == j) = false := by simp [hij]
    rw [e1]
    clear hij
    go_enter Tryz.func78, Tryz.ntmps78
    go_wp2_with fail
    go_ret
    exact ⟨by simp, K0.out⟩
/-- A slice of spots that can be read. -/
def SpA (w : World) (a : Ptr) (l : List Spt) : Prop :=
  l.length ≤ 1000000 ∧ (∀ x ∈ l, RowAt w x.k.a x.k.l) ∧ (l = [] ∨ ∃ b off, a = some ⟨b, off, none⟩ ∧ ∀ i, i < l.length → w.cell? ⟨b, off + i * 2, none⟩ = some (.int .i64 (l.getD i default).i) ∧ w.cell? ⟨b, off + i * 2 + 1, none⟩ = some (l.getD i default).k.v)
theorem SpA.keep {w w' : World} {a : Ptr} {l : List Spt} (h : SpA w a l) (hg : w.grownBy w' none) : SpA w' a l :=
  ⟨h.1, fun x hx => (h.2.1 x hx).keep (below_grownT hg), h.2.2.imp id fun ⟨b, off, e, hc⟩ => ⟨b, off, e, fun i hi => ⟨hg.cell (hc i hi).1 (by simp), hg.cell (hc i hi).2 (by simp)⟩⟩⟩
theorem SpA.at {w : World} {a : Ptr} {l : List Spt} (h : SpA w a l) {i : Nat} (hi : i < l.length) : (∃ b off, a = some ⟨b, off, none⟩ ∧ w.cell? ⟨b, off + i * 2, none⟩ = some (.int .i64 (l.getD i default).i) ∧ w.cell? ⟨b, off + i * 2 + 1, none⟩ = some (l.getD i default).k.v) ∧ RowAt w (l.getD i default).k.a (l.getD i default).k.l := by
  refine ⟨?_, h.2.1 _ (by simp [List.getD, hi])⟩
  rcases h.2.2 with h0 | ⟨b, off, e, hc⟩
  · rw [h0] at hi; simp at hi
  · exact ⟨b, off, e, hc i hi⟩
/-- Is a spot among these? -/
def spHit (i : Int) (k : List Vl) (x : Spt) : Bool := (i == x.i) && (rowsOrd k x.k.l == 0)
def SpIx (i : Int) (k : List Vl) (l : List Spt) (r : Int) : Prop := (r = -1 ∧ l.any (spHit i k) = false) ∨ (0 ≤ r ∧ l.any (spHit i k) = true)
theorem take_atE {α : Type} [Inhabited α] {D : List α} {j : Nat} (h : j < D.length) : D.take (j + 1) = D.take j ++ [D.getD j default] := by
  rw [List.take_succ_eq_append_getElem h]; simp [List.getD, h]
theorem any_take {l : List Spt} {p : Spt → Bool} {k : Nat} (h : k < l.length) (hp : p (l.getD k default) = true) : l.any p = true := by
  rw [List.any_eq_true]
  exact ⟨l.getD k default, by simp [List.getD, h], hp⟩
set_option maxRecDepth 100000 in
set_option maxHeartbeats 3200000 in
theorem indexSp_any (a ka : Option Addr) (cap kc : Nat) (l : List Spt) (i : Int) (k : List Vl) (w : World) (h : SpA w a l) (hk : RowAt w ka k) (hcap : l.length ≤ cap) :
    Calls Tryz.prog 92 #[.slice a l.length cap, .func (.func 78) #[.agg #[.int .i64 i, .slice ka k.length kc]] #[]] w fun e w' => (∃ r, e = .returned (.int .i64 r) ∧ SpIx i k l r) ∧ w.grownBy w' none := by
  have H := Lib.hid h
  have HC := Lib.hid (fun (W : World) (hW : w.grownBy W none) (x : Spt) (hx : RowAt W x.k.a x.k.l) => spotSame_any i x.i ka x.k.a kc x.k.cap k x.k.l W (hk.keep (below_grownT hW)) hx)
  have hlen := h.1
  obtain ⟨n, hn⟩ : ∃ n, n = l.length := ⟨_, rfl⟩
  have Hn := Lib.hid hn
  rw [← hn] at hlen hcap ⊢
  generalize hkl : k.length = kn at *
  clear h hk hn
  go_enter Tryz.func92, Tryz.ntmps92
  go_wp2_with fail
  go_loopw [8] (fun s wr => ∃ (q : Nat), s = .int .i64 q ∧ q ≤ n ∧ Hid ((l.take q).any (spHit i k) = false) ∧ Hid (w.grownBy wr none)) (fun s _ => n - (intOf s).toNat)
  case atStart => exact ⟨0, rfl, by omega, Lib.hid (by simp), Lib.hid (grown_reflT _ _)⟩
  case round =>
    obtain ⟨q, rfl, hq, E, K⟩ := hrel
    by_cases hlt : q < n
    · have hql : q < l.length := by rw [← Hn.out]; exact hlt
      obtain ⟨⟨b, off, rfl, c0, c1⟩, hrow⟩ := (H.out.keep K.out).at (i := q) hql
      have HC1 := Lib.hid (HC.out wr K.out _ hrow)
      have HX : Hid (∀ B, ((i == (l.getD q default).i) && (rowsOrd k (l.getD q default).k.l == 0)) = B → spHit i k (l.getD q default) = B) := Lib.hid (fun B h => h)
      obtain ⟨x, hx⟩ : ∃ x, x = l.getD q default := ⟨_, rfl⟩
      rw [← hx] at c0 c1 HC1 HX
      have Hx := Lib.hid hx
      obtain ⟨xi, ⟨xa, xc, xl⟩⟩ := x
      simp only [Rw.v] at c0 c1 HC1 HX
      generalize hxl : xl.length = xm at *
      clear hrow hx
      have i1 : (q : Int) ≤ cap := by omega
      by_cases hm : ((i == xi) && (rowsOrd k xl == 0)) = true
      · have HM := Lib.hid (HX.out true hm)
        rw [hm] at HC1
        clear hm HX hxl
        go_wp2_with fail
        refine HC1.out.mono ?_
        rintro e w2 ⟨rfl, hg⟩
        have K2 := Lib.hid (K.out.trans hg)
        clear hg
        go_wp2_with fail
        go_ret
        exact ⟨⟨q, rfl, .inr ⟨Int.natCast_nonneg _, any_take hql (by rw [← Hx.out]; exact HM.out)⟩⟩, K2.out⟩
      · have hm' : ((i == xi) && (rowsOrd k xl == 0)) = false := by simpa using hm
        have HM := Lib.hid (HX.out false hm')
        have E2 : Hid ((l.take (q + 1)).any (spHit i k) = false) := Lib.hid (by
          rw [take_atE hql, List.any_append, E.out, ← Hx.out]
          simp [HM.out])
        rw [hm'] at HC1
        clear hm hm' HX hxl
        go_wp2_with fail
        refine HC1.out.mono ?_
        rintro e w2 ⟨rfl, hg⟩
        have K2 := Lib.hid (K.out.trans hg)
        clear hg
        go_wp2_with fail
        go_roundw
        case rel => exact ⟨q + 1, by go_num, by omega, E2, K2⟩
        case measure => simp [intOf]; omega
    · obtain rfl : q = n := by omega
      go_wp2_with fail
      go_ret
      have hE := E.out
      rw [List.take_of_length_le (by rw [← Hn.out]; exact Nat.le_refl _)] at hE
      exact ⟨⟨-1, rfl, .inl ⟨rfl, hE⟩⟩, K.out⟩
set_option maxHeartbeats 1600000 in
theorem contSp_any (a ka : Option Addr) (cap kc : Nat) (l : List Spt) (i : Int) (k : List Vl) (w : World) (h : SpA w a l) (hk : RowAt w ka k) (hcap : l.length ≤ cap) :
    Calls Tryz.prog 77 #[.slice a l.length cap, .func (.func 78) #[.agg #[.int .i64 i, .slice ka k.length kc]] #[]] w fun e w' => e = .returned (.bool (l.any (spHit i k))) ∧ w.grownBy w' none := by
  have HI := Lib.hid (indexSp_any a ka cap kc l i k w h hk hcap)
  obtain ⟨B, hB⟩ : ∃ B, B = l.any (spHit i k) := ⟨_, rfl⟩
  have HB := Lib.hid hB
  rw [← hB]
  generalize l.length = n at *
  generalize k.length = q at *
  clear h hk hcap hB
  go_enter Tryz.func77, Tryz.ntmps77
  go_wp2_with fail
  refine HI.out.mono ?_
  rintro e w1 ⟨⟨r, rfl, hr⟩, hg⟩
  have G := Lib.hid hg
  rcases hr with ⟨rfl, hr⟩ | ⟨h0, hr⟩
  · obtain rfl : B = false := HB.out.trans hr
    clear hg hr
    go_wp2_with fail
    go_ret
    exact ⟨rfl, G.out⟩
  · obtain rfl : B = true := HB.out.trans hr
    have h0' : ¬ r < 0 := by omega
    clear hg hr
    go_wp2_with fail
    go_ret
    exact ⟨rfl, G.out⟩
end Go.Proofs.YtnfpomjcofhppaaGreatDoor
namespace Go.Proofs.YtnfpomjcofhppaaGreatDoor
open Go.RowKit

theorem grown_setCells (b : Nat) : ∀ (vs : List Value) (o : Nat) (w : World), w.grownBy (w.setCells b o vs) (some b)
  | [], _, w => grown_reflT w _
  | v :: vs, o, w => by
    have h1 : w.grownBy (w.setCell ⟨b, o, none⟩ v) (some b) := ⟨rfl, rfl, rfl, by simp [World.setCell], fun k _ hk => Below.heap_setCell _ _ _ _ (fun e => hk (by simp [e]))⟩
    have h2 := grown_setCells b vs (o + 1) (w.setCell ⟨b, o, none⟩ v)
    exact ⟨h2.os.trans h1.os, h2.tape.trans h1.tape, h2.output.trans h1.output, Nat.le_trans h1.size h2.size, fun k hk hne => (h2.block k (Nat.lt_of_lt_of_le hk h1.size) hne).trans (h1.block k hk hne)⟩
theorem grown_same {a b c : World} {row : Option Nat} (h1 : a.grownBy b row) (h2 : b.grownBy c row) : a.grownBy c row :=
  ⟨h2.os.trans h1.os, h2.tape.trans h1.tape, h2.output.trans h1.output, Nat.le_trans h1.size h2.size, fun k hk hne => (h2.block k (Nat.lt_of_lt_of_le hk h1.size) hne).trans (h1.block k hk hne)⟩
/-- A row of one's own, n values long, that is overwritten. -/
def Wreck (a : Ptr) (n : Nat) (w wr : World) : Prop := w.grownBy wr (blk a) ∧ (n = 0 ∨ ∃ g, a = some ⟨g, 0, none⟩ ∧ wr.there g 0 (n * 3))
theorem own_shape {w : World} {B n : Nat} {v : Value} {xs : List Value} (h : w.ownsRow B 74 3 v n xs) : ∃ a cap, v = .slice a n cap ∧ n ≤ cap := by
  rcases h.2 with ⟨hv, h0⟩ | ⟨g, cap, cur, hv, _, _, hc, _⟩
  · exact ⟨none, 0, by rw [hv, h0], by omega⟩
  · exact ⟨_, cap, hv, hc⟩
theorem Wreck.start {w : World} {B n cap : Nat} {a : Ptr} {xs : List Value} (h : w.ownsRow B 74 3 (.slice a n cap) n xs) : Wreck a n w w := by
  refine ⟨grown_reflT w _, ?_⟩
  rcases h.2 with ⟨_, h0⟩ | ⟨g, cc, cur, e, _, hg, hc, _, hs, _⟩
  · exact .inl h0
  · cases e
    refine .inr ⟨g, rfl, fun j hj => ⟨?_, ?_⟩⟩
    · rw [Nat.zero_add, cell_of_row w g j _ _ _ hg]
      have : j < cur.size := by omega
      simp [this]
    · simp [World.frozen?, hg]
theorem Wreck.at {a : Ptr} {n j : Nat} {w wr : World} (h : Wreck a n w wr) (hj : j < n) : ∃ g, a = some ⟨g, 0, none⟩ ∧ wr.there g (j * 3) 3 := by
  rcases h.2 with h0 | ⟨g, e, ht⟩
  · omega
  · exact ⟨g, e, fun i hi => by have := ht (j * 3 + i) (by omega); rwa [Nat.zero_add] at this⟩
theorem Wreck.step {g n : Nat} {w wr : World} (h : Wreck (some ⟨g, 0, none⟩) n w wr) (o : Nat) (vs : List Value) : Wreck (some ⟨g, 0, none⟩) n w (wr.setCells g o vs) :=
  ⟨grown_same h.1 (grown_setCells g vs o wr), h.2.imp id fun ⟨g', e, ht⟩ => ⟨g', e, World.there_setCells ht g o vs⟩⟩
theorem own_lt {w : World} {B n cap : Nat} {a : Ptr} {xs : List Value} (h : w.ownsRow B 74 3 (.slice a n cap) n xs) (b : Nat) (hb : blk a = some b) : B ≤ b ∧ b < w.heap.size := World.ownsRow.lt h b (by rw [own_blk]; exact hb)
theorem wreck_end {W wx w4 w5 w6 : World} {a1 a2 : Ptr} {n1 n2 c1 c2 : Nat} {xs1 xs2 : List Value} (h0 : W.grownBy wx none) (o1 : wx.ownsRow W.heap.size 74 3 (.slice a1 n1 c1) n1 xs1) (o2 : wx.ownsRow W.heap.size 74 3 (.slice a2 n2 c2) n2 xs2)
    (h4 : wx.grownBy w4 none) (h5 : w4.grownBy w5 (blk a1)) (h6 : w5.grownBy w6 (blk a2)) : W.grownBy w6 none ∧ Stays (fun b => b < W.heap.size ∨ wx.heap.size ≤ b) w4 w6 := by
  refine ⟨grown_thenT (grown_thenT (h0.trans h4) h5 (fun j e => (own_lt o1 j e).1)) h6 (fun j e => (own_lt o2 j e).1), Nat.le_trans h5.size h6.size, fun b hb hlt => ?_⟩
  rw [h6.block b (Nat.lt_of_lt_of_le hlt h5.size) (fun e => by have := own_lt o2 b e.symm; omega), h5.block b hlt (fun e => by have := own_lt o1 b e.symm; omega)]
theorem wreck_keep {wx w4 wv : World} {B n1 n2 c1 c2 : Nat} {a1 a2 : Ptr} {xs2 : List Value} (o2 : wx.ownsRow B 74 3 (.slice a2 n2 c2) n2 xs2) (hd : ∀ g, (Value.slice a1 n1 c1).ownBlock = some g → (Value.slice a2 n2 c2).ownBlock ≠ some g) (h4 : wx.grownBy w4 none) (h5 : w4.grownBy wv (blk a1)) : wv.ownsRow B 74 3 (.slice a2 n2 c2) n2 xs2 := by
  refine World.ownsRow.kept (World.ownsRow.kept o2 h4 (by cases (Value.slice a2 n2 c2).ownBlock <;> simp)) h5 ?_
  rw [own_blk]
  cases hb : blk a2 with
  | none => exact .inl rfl
  | some b => exact .inr fun e => hd b (by rw [own_blk]; exact e.symm) (by rw [own_blk]; exact hb)
theorem val_size3 : (Tryz.prog.info? 74).map (·.size) = some 3 := by kernel_rfl
abbrev nine : Array Value := #[.int .i64 9, .int .i64 0, .string ⟨#[]⟩]
theorem nine_one : nine.all (·.oneCell') = true := by simp [nine, Value.oneCell']
end Go.Proofs.YtnfpomjcofhppaaGreatDoor
namespace Go.Proofs.YtnfpomjcofhppaaGreatDoor
open Go.RowKit

/-- The number of the first table of a name. -/
def tabI (ts : List Tb) (M : ByteArray) : Option Nat := ts.findIdx? fun t => t.n.toList == M.toList
theorem TxIs.tabI {M : ByteArray} {ts : List Tb} {r : Int} (h : TxIs M ts r) : (r = -1 ∧ tabI ts M = none) ∨ (∃ k : Nat, r = k ∧ k < ts.length ∧ tabI ts M = some k) := by
  unfold Proofs.YtnfpomjcofhppaaGreatDoor.tabI
  rcases h with ⟨h1, h2⟩ | ⟨k, h1, h2, h3, h4⟩
  · refine .inl ⟨h1, ?_⟩
    rw [List.findIdx?_eq_none_iff]
    intro x hx
    obtain ⟨i, hi, rfl⟩ := List.getElem_of_mem hx
    have := h2 i hi
    simpa [List.getD, hi] using this
  · refine .inr ⟨k, h1, h2, ?_⟩
    rw [List.findIdx?_eq_some_iff_getElem]
    refine ⟨h2, by simpa [List.getD, h2] using h3, fun j hj => ?_⟩
    have := h4 j hj
    have hjl : j < ts.length := by omega
    simpa [List.getD, hjl] using this
/-- The trees, what was changed, the spots. -/
structure Ms where
  tr : Nat → Tre
  ch : List (ByteArray × List Vl × List Vl)
  sp : List (Int × List Vl)
def hitM (i : Int) (k : List Vl) (x : Int × List Vl) : Bool := (i == x.1) && (rowsOrd k x.2 == 0)
open Classical in
noncomputable def claimM (ts : List Tb) (sp : List (Int × List Vl)) (o : Om) : Except Int (Nat × List Vl) :=
  if o.k ≠ 1 ∧ o.k ≠ 2 then .error 1 else
  match tabI ts o.n with
  | none => .error 14
  | some i => match keyM (ts.getD i default) o with
    | none => .error 20
    | some key => if sp.any (hitM i key) then .error 21 else .ok (i, key)
def setT (tr : Nat → Tre) (i : Nat) (t : Tre) : Nat → Tre := fun j => if j = i then t else tr j
open Classical in
noncomputable def doM (ts : List Tb) (s : Ms) (o : Om) : Except Int Ms :=
  match claimM ts s.sp o with
  | .error c => .error c
  | .ok (i, key) => match lookL key (s.tr i).toL with
    | none => if o.k = 2 then .error 22 else .ok ⟨setT s.tr i (Tr.put rowsOrd key o.r.l (s.tr i)), s.ch ++ [((ts.getD i default).n, [], o.r.l)], s.sp ++ [((i : Int), key)]⟩
    | some was => if o.k = 2 then .ok ⟨setT s.tr i (Tr.del rowsOrd key (s.tr i)), s.ch ++ [((ts.getD i default).n, was, [])], s.sp ++ [((i : Int), key)]⟩
      else if was = o.r.l then .ok ⟨s.tr, s.ch, s.sp ++ [((i : Int), key)]⟩
      else .ok ⟨setT s.tr i (Tr.put rowsOrd key o.r.l (s.tr i)), s.ch ++ [((ts.getD i default).n, was, o.r.l)], s.sp ++ [((i : Int), key)]⟩
noncomputable def opsM (ts : List Tb) : Ms → List Om → Except Int Ms
  | s, [] => .ok s
  | s, o :: os => match doM ts s o with
    | .error c => .error c
    | .ok s' => opsM ts s' os
open Classical in
noncomputable def commitM (ts : List Tb) (tr : Nat → Tre) (ops : List Om) : Except Int Ms :=
  if ops.length = 0 then .error 1 else if 20 < ops.length then .error 3 else
  match opsM ts ⟨tr, [], []⟩ ops with
  | .error c => .error c
  | .ok s => if ∃ i, i < 6 ∧ 200 < (s.tr i).n then .error 3 else .ok s
/-- A commit on its way, in memory. -/
structure Dm where
  ca : Ptr
  cc : Nat
  ver : Int
  ps : Nat → Ptr
  cha : Ptr
  chc : Nat
  spa : Ptr
  spc : Nat
  ts : List Tb
  tr : Nat → Tre
  ch : List Cg
  sp : List Spt
def Dm.s (d : Dm) : Ms := ⟨d.tr, d.ch.map Cg.p, d.sp.map Spt.p⟩
def dC (ca : Ptr) (n cc : Nat) (ver : Int) (ps : Nat → Ptr) (cha : Ptr) (chn chc : Nat) (spa : Ptr) (spn spc : Nat) : Array Value :=
  #[.slice ca n cc, .int .i64 ver, .pointer (ps 0), .pointer (ps 1), .pointer (ps 2), .pointer (ps 3), .pointer (ps 4), .pointer (ps 5), .slice cha chn chc, .slice spa spn spc]
def Dm.M (R : Nat → Prop) (D : Nat) (d : Dm) (b : Nat) : Prop := b = D ∨ bk d.cha b ∨ bk d.spa b ∨ R b
structure DAt (R : Nat → Prop) (w : World) (D : Nat) (d : Dm) : Prop where
  blk : w.heap[D]? = some (.cells (dC d.ca d.ts.length d.cc d.ver d.ps d.cha d.ch.length d.chc d.spa d.sp.length d.spc) 86 (0, 0))
  cat : TbsS (fun b => ¬ d.M R D b) w d.ca d.ts
  tre : ∀ i, i < 6 → TrAt (fun b => ¬ d.M R D b) w (d.tr i) (d.ps i)
  och : w.ownsRow (D + 1) 59 3 (.slice d.cha d.ch.length d.chc) d.ch.length (d.ch.flatMap Cg.c)
  rch : ∀ x ∈ d.ch, RwS (fun b => ¬ d.M R D b) w x.o.a x.o.l ∧ RwS (fun b => ¬ d.M R D b) w x.n.a x.n.l
  osp : w.ownsRow (D + 1) 165 2 (.slice d.spa d.sp.length d.spc) d.sp.length (d.sp.flatMap Spt.c)
  rsp : ∀ x ∈ d.sp, RwS (fun b => ¬ d.M R D b) w x.k.a x.k.l
  rl : ∀ k, R k → k < D
theorem bk_own (a : Ptr) (n c k : Nat) : (Value.slice a n c).ownBlock = some k ↔ bk a k := by cases a <;> simp [bk, Value.ownBlock]
theorem DAt.lt {R : Nat → Prop} {w : World} {D : Nat} {d : Dm} (h : DAt R w D d) : D < w.heap.size := (Array.getElem?_eq_some_iff.1 h.blk).1
theorem DAt.Mlt {R : Nat → Prop} {w : World} {D : Nat} {d : Dm} (h : DAt R w D d) : ∀ b, d.M R D b → b < w.heap.size := fun b hb => by
  have := h.lt
  rcases hb with rfl | hb | hb | hb
  · exact h.lt
  · exact (World.ownsRow.lt h.och b ((bk_own _ _ _ _).2 hb)).2
  · exact (World.ownsRow.lt h.osp b ((bk_own _ _ _ _).2 hb)).2
  · have := h.rl b hb; omega
theorem DAt.own {R : Nat → Prop} {w : World} {D : Nat} {d : Dm} (h : DAt R w D d) : (∀ k, bk d.cha k → D < k) ∧ (∀ k, bk d.spa k → D < k) :=
  ⟨fun k hk => (World.ownsRow.lt h.och k ((bk_own _ _ _ _).2 hk)).1, fun k hk => (World.ownsRow.lt h.osp k ((bk_own _ _ _ _).2 hk)).1⟩
theorem own_apart9 {w : World} {B B' s s' n n' : Nat} {e e' : TypeId} {v v' : Value} {xs xs' : List Value} (h : w.ownsRow B e s v n xs) (h' : w.ownsRow B' e' s' v' n' xs') (hne : e ≠ e') (k : Nat) (hk : v.ownBlock = some k) (hk' : v'.ownBlock = some k) : False := by
  rcases h.2 with ⟨hv, _⟩ | ⟨g, cap, cur, hv, _, hg, _⟩
  · rw [hv] at hk; cases hk
  · rcases h'.2 with ⟨hv', _⟩ | ⟨g', cap', cur', hv', _, hg', _⟩
    · rw [hv'] at hk'; cases hk'
    · rw [hv] at hk; rw [hv'] at hk'
      have e1 : g = k := by simpa [Value.ownBlock] using hk
      have e2 : g' = k := by simpa [Value.ownBlock] using hk'
      subst e1; subst e2
      rw [hg] at hg'
      exact hne (by cases hg'; rfl)
theorem DAt.apart {R : Nat → Prop} {w : World} {D : Nat} {d : Dm} (h : DAt R w D d) : ∀ k, bk d.cha k → ¬ bk d.spa k := fun k h1 h2 =>
  own_apart9 h.och h.osp (by decide) k ((bk_own _ _ _ _).2 h1) ((bk_own _ _ _ _).2 h2)
/-- What is kept where the draft alone turns. -/
theorem DAt.move {R : Nat → Prop} {w w' : World} {D : Nat} {d d' : Dm} (_h : DAt R w D d) (ho : Only (fun k => k = D ∨ bk d.cha k ∨ bk d.spa k) w w') (hc : ∀ k, bk d'.cha k → bk d.cha k ∨ w.heap.size ≤ k) (hs : ∀ k, bk d'.spa k → bk d.spa k ∨ w.heap.size ≤ k) :
    (∀ b, b < w.heap.size → ¬ d.M R D b → ¬ d.M R D b ∧ ¬ d'.M R D b) ∧ Stays (fun b => ¬ d.M R D b ∧ ¬ d'.M R D b) w w' := by
  refine ⟨fun b hb hn => ⟨hn, fun e => ?_⟩, ho.stays (fun b hn _ e => hn.1 ?_)⟩
  · rcases e with e | e | e | e
    · exact hn (.inl e)
    · rcases hc b e with e | e
      · exact hn (.inr (.inl e))
      · omega
    · rcases hs b e with e | e
      · exact hn (.inr (.inr (.inl e)))
      · omega
    · exact hn (.inr (.inr (.inr e)))
  · rcases e with e | e | e
    · exact .inl e
    · exact .inr (.inl e)
    · exact .inr (.inr (.inl e))
theorem DAt.step {R : Nat → Prop} {w w' : World} {D : Nat} {d d' : Dm} (h : DAt R w D d) (ho : Only (fun k => k = D ∨ bk d.cha k ∨ bk d.spa k) w w') (hc : ∀ k, bk d'.cha k → bk d.cha k ∨ w.heap.size ≤ k) (hs : ∀ k, bk d'.spa k → bk d.spa k ∨ w.heap.size ≤ k)
    (hca : d'.ca = d.ca) (hts : d'.ts = d.ts)
    (hb : w'.heap[D]? = some (.cells (dC d'.ca d'.ts.length d'.cc d'.ver d'.ps d'.cha d'.ch.length d'.chc d'.spa d'.sp.length d'.spc) 86 (0, 0)))
    (ht : ∀ i, i < 6 → (d'.tr i = d.tr i ∧ d'.ps i = d.ps i) ∨ TrAt (fun b => ¬ d'.M R D b) w' (d'.tr i) (d'.ps i))
    (hoc : w'.ownsRow (D + 1) 59 3 (.slice d'.cha d'.ch.length d'.chc) d'.ch.length (d'.ch.flatMap Cg.c))
    (hrc : ∀ x ∈ d'.ch, x ∈ d.ch ∨ (RwS (fun b => ¬ d'.M R D b) w' x.o.a x.o.l ∧ RwS (fun b => ¬ d'.M R D b) w' x.n.a x.n.l))
    (hos : w'.ownsRow (D + 1) 165 2 (.slice d'.spa d'.sp.length d'.spc) d'.sp.length (d'.sp.flatMap Spt.c))
    (hrs : ∀ x ∈ d'.sp, x ∈ d.sp ∨ RwS (fun b => ¬ d'.M R D b) w' x.k.a x.k.l) : DAt R w' D d' := by
  obtain ⟨m1, m2⟩ := h.move (d' := d') ho hc hs
  refine ⟨hb, ?_, fun i hi => ?_, hoc, fun x hx => ?_, hos, fun x hx => ?_, h.rl⟩
  · rw [hca, hts]
    exact ((h.cat.mono m1).keep m2).mono (fun b _ hb => hb.2)
  · rcases ht i hi with ⟨e1, e2⟩ | ht
    · rw [e1, e2]
      exact (((h.tre i hi).mono m1).keep m2).mono (fun b _ hb => hb.2)
    · exact ht
  · rcases hrc x hx with hx | hx
    · exact ⟨(((h.rch x hx).1.mono m1).keep m2).mono (fun b _ hb => hb.2), (((h.rch x hx).2.mono m1).keep m2).mono (fun b _ hb => hb.2)⟩
    · exact hx
  · rcases hrs x hx with hx | hx
    · exact (((h.rsp x hx).mono m1).keep m2).mono (fun b _ hb => hb.2)
    · exact hx
theorem DAt.keepG {R : Nat → Prop} {w w' : World} {D : Nat} {d : Dm} (h : DAt R w D d) (hg : w.grownBy w' none) : DAt R w' D d :=
  h.step (.of_none hg) (fun _ e => .inl e) (fun _ e => .inl e) rfl rfl ((hg.block D h.lt (by simp)).trans h.blk) (fun _ _ => .inl ⟨rfl, rfl⟩) (World.ownsRow.kept h.och hg (by cases (Value.slice d.cha d.ch.length d.chc).ownBlock <;> simp)) (fun _ hx => .inl hx) (World.ownsRow.kept h.osp hg (by cases (Value.slice d.spa d.sp.length d.spc).ownBlock <;> simp)) (fun _ hx => .inl hx)
end Go.Proofs.YtnfpomjcofhppaaGreatDoor
