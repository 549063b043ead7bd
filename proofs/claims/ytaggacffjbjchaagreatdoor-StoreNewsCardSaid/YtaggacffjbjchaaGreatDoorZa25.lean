/- Spots: which operations are done already. A commit on its way: what its operations make, as mathematics, and in memory. Mathematics: what is found in a tree behind a put or a delete, and how many are there; commits on the document's example. -/
import Derived.Test.YtaggacffjbjchaaGreatDoorZa23
import Derived.Test.YtaggacffjbjchaaGreatDoorZa20
import Derived.Test.YtaggacffjbjchaaGreatDoorZa24
import Derived.Test.YtaggacffjbjchaaGreatDoorZa19
import Derived.Test.YtaggacffjbjchaaGreatDoorZa21
import Derived.Test.YtaggacffjbjchaaGreatDoorZa09
import Derived.Test.YtaggacffjbjchaaGreatDoorZa18
namespace Go.Proofs.YtaggacffjbjchaaGreatDoor
open Go.RowKit

/-- A spot: a table's number, a key. -/
structure Spt where
  i : Int
  k : Rw
instance : Inhabited Spt := ⟨⟨0, default⟩⟩
def Spt.c (x : Spt) : List Value := [.int .i64 x.i, x.k.v]
def Spt.p (x : Spt) : Int × List Vl := (x.i, x.k.l)
theorem sp_len (l : List Spt) : (l.flatMap Spt.c).length = l.length * 2 := by
  induction l with
  | nil => rfl
  | cons x l ih => rw [List.flatMap_cons, List.length_append, ih]; simp [Spt.c]; omega
theorem sp_at (l : List Spt) : ∀ i, i < l.length → (l.flatMap Spt.c)[i * 2]? = some (.int .i64 (l.getD i default).i) ∧ (l.flatMap Spt.c)[i * 2 + 1]? = some (l.getD i default).k.v := by
  induction l with
  | nil => intro i hi; simp at hi
  | cons x l ih =>
    intro i hi
    rw [List.flatMap_cons]
    match i, hi with
    | 0, _ => exact ⟨rfl, rfl⟩
    | i + 1, hi =>
      have := ih i (by simpa using hi)
      have e : ∀ o, (Spt.c x ++ l.flatMap Spt.c)[(i + 1) * 2 + o]? = (l.flatMap Spt.c)[i * 2 + o]? := fun o => by
        rw [List.getElem?_append_right (by simp [Spt.c]; omega)]
        congr 1
        simp [Spt.c]
        omega
      have e0 := e 0
      simp only [Nat.add_zero] at e0
      rw [e0, e 1]
      simpa [List.getD] using this
theorem sp_info : (Tryz.prog.info? 189).map (fun i => (i.zero, i.size, i.bytes)) = some (some (.agg #[.int .i64 0, .slice none 0 0]), 2, 32) := by kernel_rfl
set_option maxHeartbeats 1600000 in
theorem valSame_any (a a' : Option Addr) (cap cap' : Nat) (l m : List Vl) (w : World) (h : RowAt w a l) (h' : RowAt w a' m) :
    Calls Tryz.prog 88 #[.slice a l.length cap, .slice a' m.length cap'] w fun e w' => e = .returned (.bool (rowsOrd l m == 0)) ∧ w.grownBy w' none := by
  have HE := Lib.hid (equal_any a a' cap cap' l m w h h')
  generalize (rowsOrd l m == 0) = b at *
  generalize l.length = n at *
  generalize m.length = q at *
  clear h h'
  go_enter Tryz.func88, Tryz.ntmps88
  go_wp2_with fail
  refine HE.out.mono ?_
  rintro e w1 ⟨rfl, hb⟩
  have G := Lib.hid (grown_belowT hb none)
  clear hb
  go_wp2_with fail
  go_ret
  exact ⟨rfl, G.out⟩
abbrev cSp (i : Int) (a : Option Addr) (n c : Nat) : Obj := .cells #[.int .i64 i, .slice a n c] 189
set_option maxHeartbeats 3200000 in
theorem spotSame_any (i j : Int) (a a' : Option Addr) (cap cap' : Nat) (l m : List Vl) (w : World) (h : RowAt w a l) (h' : RowAt w a' m) :
    Calls Tryz.prog 101 #[.agg #[.int .i64 i, .slice a l.length cap], .agg #[.int .i64 j, .slice a' m.length cap']] w fun e w' => e = .returned (.bool ((i == j) && (rowsOrd l m == 0))) ∧ w.grownBy w' none := by
  have HS := Lib.hid (fun W (hW : w.grownBy W none) => valSame_any a a' cap cap' l m W (h.keep (below_grownT hW)) (h'.keep (below_grownT hW)))
  generalize (rowsOrd l m == 0) = b at *
  generalize l.length = n at *
  generalize m.length = q at *
  clear h h'
  have B1 := heap_alloc_new w (cSp i a n cap)
  have B2 := heap_alloc_new (w.alloc (cSp i a n cap)) (cSp j a' q cap')
  have hs1 : (w.alloc (cSp i a n cap)).heap.size = w.heap.size + 1 := by simp
  rw [hs1] at B2
  have g1 := World.grownBy_alloc (w.alloc (cSp i a n cap)) (cSp j a' q cap') none
  have K0 := Lib.hid ((World.grownBy_alloc w (cSp i a n cap) none).trans g1)
  have b0 := g1.cell (cell_of_row _ _ 0 _ _ _ B1) (by simp)
  have b1 := g1.cell (cell_of_row _ _ 1 _ _ _ B1) (by simp)
  have d0 := cell_of_row _ _ 0 _ _ _ B2
  have d1 := cell_of_row _ _ 1 _ _ _ B2
  simp at b0 b1
  clear B1 B2 g1 hs1
  by_cases hij : i = j
  · have e1 : (i == j) = true := by simp [hij]
    rw [e1]
    clear hij
    go_enter Tryz.func101, Tryz.ntmps101
    go_wp2_with fail
    refine (HS.out _ K0.out).mono ?_
    rintro e w1 ⟨rfl, hg⟩
    have G := Lib.hid (K0.out.trans hg)
    clear hg
    go_wp2_with fail
    go_ret
    exact ⟨by simp, G.out⟩
  · have e1 : (i == j) = false := by simp [hij]
    rw [e1]
    clear hij
    go_enter Tryz.func101, Tryz.ntmps101
    go_wp2_with fail
    go_ret
    exact ⟨by simp, K0.out⟩
/-- A slice of spots that can be read. -/
def SpA (w : World) (a : Ptr) (l : List Spt) : Prop :=
  l.length ≤ 1000000 ∧ (∀ x ∈ l, RowAt w x.k.a x.k.l) ∧ (l = [] ∨ ∃ b off, a = some ⟨b, off, none⟩ ∧ ∀ i, i < l.length → w.cell? ⟨b, off + i * 2, none⟩ = some (.int .i64 (l.getD i default).i) ∧ w.cell? ⟨b, off + i * 2 + 1, none⟩ = some (l.getD i default).k.v)
theorem SpA.keep {w w' : World} {a : Ptr} {l : List Spt} (h : SpA w a l) (hg : w.grownBy w' none) : SpA w' a l :=
  ⟨h.1, fun x hx => (h.2.1 x hx).keep (below_grownT hg), h.2.2.imp id fun ⟨b, off, e, hc⟩ => ⟨b, off, e, fun i hi => ⟨hg.cell (hc i hi).1 (by simp), hg.cell (hc i hi).2 (by simp)⟩⟩⟩
theorem SpA.at {w : World} {a : Ptr} {l : List Spt} (h : SpA w a l) {i : Nat} (hi : i < l.length) : (∃ b off, a = some ⟨b, off, none⟩ ∧ w.cell? ⟨b, off + i * 2, none⟩ = some (.int .i64 (l.getD i default).i) ∧ w.cell? ⟨b, off + i * 2 + 1, none⟩ = some (l.getD i default).k.v) ∧ RowAt w (l.getD i default).k.a (l.getD i default).k.l := by
  refine ⟨?_, h.2.1 _ (by simp [List.getD, hi])⟩
  rcases h.2.2 with h0 | ⟨b, off, e, hc⟩
  · rw [h0] at hi; simp at hi
  · exact ⟨b, off, e, hc i hi⟩
/-- Is a spot among these? -/
def spHit (i : Int) (k : List Vl) (x : Spt) : Bool := (i == x.i) && (rowsOrd k x.k.l == 0)
def SpIx (i : Int) (k : List Vl) (l : List Spt) (r : Int) : Prop := (r = -1 ∧ l.any (spHit i k) = false) ∨ (0 ≤ r ∧ l.any (spHit i k) = true)
theorem take_atE {α : Type} [Inhabited α] {D : List α} {j : Nat} (h : j < D.length) : D.take (j + 1) = D.take j ++ [D.getD j default] := by
  rw [List.take_succ_eq_append_getElem h]; simp [List.getD, h]
theorem any_take {l : List Spt} {p : Spt → Bool} {k : Nat} (h : k < l.length) (hp : p (l.getD k default) = true) : l.any p = true := by
  rw [List.any_eq_true]
  exact ⟨l.getD k default, by simp [List.getD, h], hp⟩
set_option maxRecDepth 100000 in
set_option maxHeartbeats 3200000 in
theorem indexSp_any (a ka : Option Addr) (cap kc : Nat) (l : List Spt) (i : Int) (k : List Vl) (w : World) (h : SpA w a l) (hk : RowAt w ka k) (hcap : l.length ≤ cap) :
    Calls Tryz.prog 118 #[.slice a l.length cap, .func (.func 101) #[.agg #[.int .i64 i, .slice ka k.length kc]] #[]] w fun e w' => (∃ r, e = .returned (.int .i64 r) ∧ SpIx i k l r) ∧ w.grownBy w' none := by
  have H := Lib.hid h
  have HC := Lib.hid (fun (W : World) (hW : w.grownBy W none) (x : Spt) (hx : RowAt W x.k.a x.k.l) => spotSame_any i x.i ka x.k.a kc x.k.cap k x.k.l W (hk.keep (below_grownT hW)) hx)
  have hlen := h.1
  obtain ⟨n, hn⟩ : ∃ n, n = l.length := ⟨_, rfl⟩
  have Hn := Lib.hid hn
  rw [← hn] at hlen hcap ⊢
  generalize hkl : k.length = kn at *
  clear h hk hn
  go_enter Tryz.func118, Tryz.ntmps118
  go_wp2_with fail
  go_loopw [8] (fun s wr => ∃ (q : Nat), s = .int .i64 q ∧ q ≤ n ∧ Hid ((l.take q).any (spHit i k) = false) ∧ Hid (w.grownBy wr none)) (fun s _ => n - (intOf s).toNat)
  case atStart => exact ⟨0, rfl, by omega, Lib.hid (by simp), Lib.hid (grown_reflT _ _)⟩
  case round =>
    obtain ⟨q, rfl, hq, E, K⟩ := hrel
    by_cases hlt : q < n
    · have hql : q < l.length := by rw [← Hn.out]; exact hlt
      obtain ⟨⟨b, off, rfl, c0, c1⟩, hrow⟩ := (H.out.keep K.out).at (i := q) hql
      have HC1 := Lib.hid (HC.out wr K.out _ hrow)
      have HX : Hid (∀ B, ((i == (l.getD q default).i) && (rowsOrd k (l.getD q default).k.l == 0)) = B → spHit i k (l.getD q default) = B) := Lib.hid (fun B h => h)
      obtain ⟨x, hx⟩ : ∃ x, x = l.getD q default := ⟨_, rfl⟩
      rw [← hx] at c0 c1 HC1 HX
      have Hx := Lib.hid hx
      obtain ⟨xi, ⟨xa, xc, xl⟩⟩ := x
      simp only [Rw.v] at c0 c1 HC1 HX
      generalize hxl : xl.length = xm at *
      clear hrow hx
      have i1 : (q : Int) ≤ cap := by omega
      by_cases hm : ((i == xi) && (rowsOrd k xl == 0)) = true
      · have HM := Lib.hid (HX.out true hm)
        rw [hm] at HC1
        clear hm HX hxl
        go_wp2_with fail
        refine HC1.out.mono ?_
        rintro e w2 ⟨rfl, hg⟩
        have K2 := Lib.hid (K.out.trans hg)
        clear hg
        go_wp2_with fail
        go_ret
        exact ⟨⟨q, rfl, .inr ⟨Int.natCast_nonneg _, any_take hql (by rw [← Hx.out]; exact HM.out)⟩⟩, K2.out⟩
      · have hm' : ((i == xi) && (rowsOrd k xl == 0)) = false := by simpa using hm
        have HM := Lib.hid (HX.out false hm')
        have E2 : Hid ((l.take (q + 1)).any (spHit i k) = false) := Lib.hid (by
          rw [take_atE hql, List.any_append, E.out, ← Hx.out]
          simp [HM.out])
        rw [hm'] at HC1
        clear hm hm' HX hxl
        go_wp2_with fail
        refine HC1.out.mono ?_
        rintro e w2 ⟨rfl, hg⟩
        have K2 := Lib.hid (K.out.trans hg)
        clear hg
        go_wp2_with fail
        go_roundw
        case rel => exact ⟨q + 1, by go_num, by omega, E2, K2⟩
        case measure => simp [intOf]; omega
    · obtain rfl : q = n := by omega
      go_wp2_with fail
      go_ret
      have hE := E.out
      rw [List.take_of_length_le (by rw [← Hn.out]; exact Nat.le_refl _)] at hE
      exact ⟨⟨-1, rfl, .inl ⟨rfl, hE⟩⟩, K.out⟩
set_option maxHeartbeats 1600000 in
theorem contSp_any (a ka : Option Addr) (cap kc : Nat) (l : List Spt) (i : Int) (k : List Vl) (w : World) (h : SpA w a l) (hk : RowAt w ka k) (hcap : l.length ≤ cap) :
    Calls Tryz.prog 100 #[.slice a l.length cap, .func (.func 101) #[.agg #[.int .i64 i, .slice ka k.length kc]] #[]] w fun e w' => e = .returned (.bool (l.any (spHit i k))) ∧ w.grownBy w' none := by
  have HI := Lib.hid (indexSp_any a ka cap kc l i k w h hk hcap)
  obtain ⟨B, hB⟩ : ∃ B, B = l.any (spHit i k) := ⟨_, rfl⟩
  have HB := Lib.hid hB
  rw [← hB]
  generalize l.length = n at *
  generalize k.length = q at *
  clear h hk hcap hB
  go_enter Tryz.func100, Tryz.ntmps100
  go_wp2_with fail
  refine HI.out.mono ?_
  rintro e w1 ⟨⟨r, rfl, hr⟩, hg⟩
  have G := Lib.hid hg
  rcases hr with ⟨rfl, hr⟩ | ⟨h0, hr⟩
  · obtain rfl : B = false := HB.out.trans hr
    clear hg hr
    go_wp2_with fail
    go_ret
    exact ⟨rfl, G.out⟩
  · obtain rfl : B = true := HB.out.trans hr
    have h0' : ¬ r < 0 := by omega
    clear hg hr
    go_wp2_with fail
    go_ret
    exact ⟨rfl, G.out⟩
end Go.Proofs.YtaggacffjbjchaaGreatDoor
namespace Go.Proofs.YtaggacffjbjchaaGreatDoor
open Go.RowKit

/-- The number of the first table of a name. -/
def tabI (ts : List Tb) (M : ByteArray) : Option Nat := ts.findIdx? fun t => t.n.toList == M.toList
theorem TxIs.tabI {M : ByteArray} {ts : List Tb} {r : Int} (h : TxIs M ts r) : (r = -1 ∧ tabI ts M = none) ∨ (∃ k : Nat, r = k ∧ k < ts.length ∧ tabI ts M = some k) := by
  unfold Proofs.YtaggacffjbjchaaGreatDoor.tabI
  rcases h with ⟨h1, h2⟩ | ⟨k, h1, h2, h3, h4⟩
  · refine .inl ⟨h1, ?_⟩
    rw [List.findIdx?_eq_none_iff]
    intro x hx
    obtain ⟨i, hi, rfl⟩ := List.getElem_of_mem hx
    have := h2 i hi
    simpa [List.getD, hi] using this
  · refine .inr ⟨k, h1, h2, ?_⟩
    rw [List.findIdx?_eq_some_iff_getElem]
    refine ⟨h2, by simpa [List.getD, h2] using h3, fun j hj => ?_⟩
    have := h4 j hj
    have hjl : j < ts.length := by omega
    simpa [List.getD, hjl] using this
/-- The trees, what was changed, the spots. -/
structure Ms where
  tr : Nat → Tre
  ch : List (ByteArray × List Vl × List Vl)
  sp : List (Int × List Vl)
def hitM (i : Int) (k : List Vl) (x : Int × List Vl) : Bool := (i == x.1) && (rowsOrd k x.2 == 0)
open Classical in
noncomputable def claimM (ts : List Tb) (sp : List (Int × List Vl)) (o : Om) : Except Int (Nat × List Vl) :=
  if o.k ≠ 1 ∧ o.k ≠ 2 then .error 1 else
  match tabI ts o.n with
  | none => .error 14
  | some i => match keyM (ts.getD i default) o with
    | none => .error 20
    | some key => if sp.any (hitM i key) then .error 21 else .ok (i, key)
def setT (tr : Nat → Tre) (i : Nat) (t : Tre) : Nat → Tre := fun j => if j = i then t else tr j
open Classical in
noncomputable def doM (ts : List Tb) (s : Ms) (o : Om) : Except Int Ms :=
  match claimM ts s.sp o with
  | .error c => .error c
  | .ok (i, key) => match lookL key (s.tr i).toL with
    | none => if o.k = 2 then .error 22 else .ok ⟨setT s.tr i (Tr.put rowsOrd key o.r.l (s.tr i)), s.ch ++ [((ts.getD i default).n, [], o.r.l)], s.sp ++ [((i : Int), key)]⟩
    | some was => if o.k = 2 then .ok ⟨setT s.tr i (Tr.del rowsOrd key (s.tr i)), s.ch ++ [((ts.getD i default).n, was, [])], s.sp ++ [((i : Int), key)]⟩
      else if was = o.r.l then .ok ⟨s.tr, s.ch, s.sp ++ [((i : Int), key)]⟩
      else .ok ⟨setT s.tr i (Tr.put rowsOrd key o.r.l (s.tr i)), s.ch ++ [((ts.getD i default).n, was, o.r.l)], s.sp ++ [((i : Int), key)]⟩
noncomputable def opsM (ts : List Tb) : Ms → List Om → Except Int Ms
  | s, [] => .ok s
  | s, o :: os => match doM ts s o with
    | .error c => .error c
    | .ok s' => opsM ts s' os
open Classical in
noncomputable def commitM (ts : List Tb) (tr : Nat → Tre) (ops : List Om) : Except Int Ms :=
  if ops.length = 0 then .error 1 else if 20 < ops.length then .error 3 else
  match opsM ts ⟨tr, [], []⟩ ops with
  | .error c => .error c
  | .ok s => if ∃ i, i < 6 ∧ 200 < (s.tr i).n then .error 3 else .ok s
/-- A commit on its way, in memory. -/
structure Dm where
  ca : Ptr
  cc : Nat
  ver : Int
  ps : Nat → Ptr
  cha : Ptr
  chc : Nat
  spa : Ptr
  spc : Nat
  ts : List Tb
  tr : Nat → Tre
  ch : List Cg
  sp : List Spt
def Dm.s (d : Dm) : Ms := ⟨d.tr, d.ch.map Cg.p, d.sp.map Spt.p⟩
def dC (ca : Ptr) (n cc : Nat) (ver : Int) (ps : Nat → Ptr) (cha : Ptr) (chn chc : Nat) (spa : Ptr) (spn spc : Nat) : Array Value :=
  #[.slice ca n cc, .int .i64 ver, .pointer (ps 0), .pointer (ps 1), .pointer (ps 2), .pointer (ps 3), .pointer (ps 4), .pointer (ps 5), .slice cha chn chc, .slice spa spn spc]
def Dm.M (R : Nat → Prop) (D : Nat) (d : Dm) (b : Nat) : Prop := b = D ∨ bk d.cha b ∨ bk d.spa b ∨ R b
structure DAt (R : Nat → Prop) (w : World) (D : Nat) (d : Dm) : Prop where
  blk : w.heap[D]? = some (.cells (dC d.ca d.ts.length d.cc d.ver d.ps d.cha d.ch.length d.chc d.spa d.sp.length d.spc) 111 (0, 0))
  cat : TbsS (fun b => ¬ d.M R D b) w d.ca d.ts
  tre : ∀ i, i < 6 → TrAt (fun b => ¬ d.M R D b) w (d.tr i) (d.ps i)
  och : w.ownsRow (D + 1) 71 3 (.slice d.cha d.ch.length d.chc) d.ch.length (d.ch.flatMap Cg.c)
  rch : ∀ x ∈ d.ch, RwS (fun b => ¬ d.M R D b) w x.o.a x.o.l ∧ RwS (fun b => ¬ d.M R D b) w x.n.a x.n.l
  osp : w.ownsRow (D + 1) 189 2 (.slice d.spa d.sp.length d.spc) d.sp.length (d.sp.flatMap Spt.c)
  rsp : ∀ x ∈ d.sp, RwS (fun b => ¬ d.M R D b) w x.k.a x.k.l
  rl : ∀ k, R k → k < D
theorem bk_own (a : Ptr) (n c k : Nat) : (Value.slice a n c).ownBlock = some k ↔ bk a k := by cases a <;> simp [bk, Value.ownBlock]
theorem DAt.lt {R : Nat → Prop} {w : World} {D : Nat} {d : Dm} (h : DAt R w D d) : D < w.heap.size := (Array.getElem?_eq_some_iff.1 h.blk).1
theorem DAt.Mlt {R : Nat → Prop} {w : World} {D : Nat} {d : Dm} (h : DAt R w D d) : ∀ b, d.M R D b → b < w.heap.size := fun b hb => by
  have := h.lt
  rcases hb with rfl | hb | hb | hb
  · exact h.lt
  · exact (World.ownsRow.lt h.och b ((bk_own _ _ _ _).2 hb)).2
  · exact (World.ownsRow.lt h.osp b ((bk_own _ _ _ _).2 hb)).2
  · have := h.rl b hb; omega
theorem DAt.own {R : Nat → Prop} {w : World} {D : Nat} {d : Dm} (h : DAt R w D d) : (∀ k, bk d.cha k → D < k) ∧ (∀ k, bk d.spa k → D < k) :=
  ⟨fun k hk => (World.ownsRow.lt h.och k ((bk_own _ _ _ _).2 hk)).1, fun k hk => (World.ownsRow.lt h.osp k ((bk_own _ _ _ _).2 hk)).1⟩
theorem own_apart9 {w : World} {B B' s s' n n' : Nat} {e e' : TypeId} {v v' : Value} {xs xs' : List Value} (h : w.ownsRow B e s v n xs) (h' : w.ownsRow B' e' s' v' n' xs') (hne : e ≠ e') (k : Nat) (hk : v.ownBlock = some k) (hk' : v'.ownBlock = some k) : False := by
  rcases h.2 with ⟨hv, _⟩ | ⟨g, cap, cur, hv, _, hg, _⟩
  · rw [hv] at hk; cases hk
  · rcases h'.2 with ⟨hv', _⟩ | ⟨g', cap', cur', hv', _, hg', _⟩
    · rw [hv'] at hk'; cases hk'
    · rw [hv] at hk; rw [hv'] at hk'
      have e1 : g = k := by simpa [Value.ownBlock] using hk
      have e2 : g' = k := by simpa [Value.ownBlock] using hk'
      subst e1; subst e2
      rw [hg] at hg'
      exact hne (by cases hg'; rfl)
theorem DAt.apart {R : Nat → Prop} {w : World} {D : Nat} {d : Dm} (h : DAt R w D d) : ∀ k, bk d.cha k → ¬ bk d.spa k := fun k h1 h2 =>
  own_apart9 h.och h.osp (by decide) k ((bk_own _ _ _ _).2 h1) ((bk_own _ _ _ _).2 h2)
/-- What is kept where the draft alone turns. -/
theorem DAt.move {R : Nat → Prop} {w w' : World} {D : Nat} {d d' : Dm} (_h : DAt R w D d) (ho : Only (fun k => k = D ∨ bk d.cha k ∨ bk d.spa k) w w') (hc : ∀ k, bk d'.cha k → bk d.cha k ∨ w.heap.size ≤ k) (hs : ∀ k, bk d'.spa k → bk d.spa k ∨ w.heap.size ≤ k) :
    (∀ b, b < w.heap.size → ¬ d.M R D b → ¬ d.M R D b ∧ ¬ d'.M R D b) ∧ Stays (fun b => ¬ d.M R D b ∧ ¬ d'.M R D b) w w' := by
  refine ⟨fun b hb hn => ⟨hn, fun e => ?_⟩, ho.stays (fun b hn _ e => hn.1 ?_)⟩
  · rcases e with e | e | e | e
    · exact hn (.inl e)
    · rcases hc b e with e | e
      · exact hn (.inr (.inl e))
      · omega
    · rcases hs b e with e | e
      · exact hn (.inr (.inr (.inl e)))
      · omega
    · exact hn (.inr (.inr (.inr e)))
  · rcases e with e | e | e
    · exact .inl e
    · exact .inr (.inl e)
    · exact .inr (.inr (.inl e))
theorem DAt.step {R : Nat → Prop} {w w' : World} {D : Nat} {d d' : Dm} (h : DAt R w D d) (ho : Only (fun k => k = D ∨ bk d.cha k ∨ bk d.spa k) w w') (hc : ∀ k, bk d'.cha k → bk d.cha k ∨ w.heap.size ≤ k) (hs : ∀ k, bk d'.spa k → bk d.spa k ∨ w.heap.size ≤ k)
    (hca : d'.ca = d.ca) (hts : d'.ts = d.ts)
    (hb : w'.heap[D]? = some (.cells (dC d'.ca d'.ts.length d'.cc d'.ver d'.ps d'.cha d'.ch.length d'.chc d'.spa d'.sp.length d'.spc) 111 (0, 0)))
    (ht : ∀ i, i < 6 → (d'.tr i = d.tr i ∧ d'.ps i = d.ps i) ∨ TrAt (fun b => ¬ d'.M R D b) w' (d'.tr i) (d'.ps i))
    (hoc : w'.ownsRow (D + 1) 71 3 (.slice d'.cha d'.ch.length d'.chc) d'.ch.length (d'.ch.flatMap Cg.c))
    (hrc : ∀ x ∈ d'.ch, x ∈ d.ch ∨ (RwS (fun b => ¬ d'.M R D b) w' x.o.a x.o.l ∧ RwS (fun b => ¬ d'.M R D b) w' x.n.a x.n.l))
    (hos : w'.ownsRow (D + 1) 189 2 (.slice d'.spa d'.sp.length d'.spc) d'.sp.length (d'.sp.flatMap Spt.c))
    (hrs : ∀ x ∈ d'.sp, x ∈ d.sp ∨ RwS (fun b => ¬ d'.M R D b) w' x.k.a x.k.l) : DAt R w' D d' := by
  obtain ⟨m1, m2⟩ := h.move (d' := d') ho hc hs
  refine ⟨hb, ?_, fun i hi => ?_, hoc, fun x hx => ?_, hos, fun x hx => ?_, h.rl⟩
  · rw [hca, hts]
    exact ((h.cat.mono m1).keep m2).mono (fun b _ hb => hb.2)
  · rcases ht i hi with ⟨e1, e2⟩ | ht
    · rw [e1, e2]
      exact (((h.tre i hi).mono m1).keep m2).mono (fun b _ hb => hb.2)
    · exact ht
  · rcases hrc x hx with hx | hx
    · exact ⟨(((h.rch x hx).1.mono m1).keep m2).mono (fun b _ hb => hb.2), (((h.rch x hx).2.mono m1).keep m2).mono (fun b _ hb => hb.2)⟩
    · exact hx
  · rcases hrs x hx with hx | hx
    · exact (((h.rsp x hx).mono m1).keep m2).mono (fun b _ hb => hb.2)
    · exact hx
theorem DAt.keepG {R : Nat → Prop} {w w' : World} {D : Nat} {d : Dm} (h : DAt R w D d) (hg : w.grownBy w' none) : DAt R w' D d :=
  h.step (.of_none hg) (fun _ e => .inl e) (fun _ e => .inl e) rfl rfl ((hg.block D h.lt (by simp)).trans h.blk) (fun _ _ => .inl ⟨rfl, rfl⟩) (World.ownsRow.kept h.och hg (by cases (Value.slice d.cha d.ch.length d.chc).ownBlock <;> simp)) (fun _ hx => .inl hx) (World.ownsRow.kept h.osp hg (by cases (Value.slice d.spa d.sp.length d.spc).ownBlock <;> simp)) (fun _ hx => .inl hx)
end Go.Proofs.YtaggacffjbjchaaGreatDoor
namespace Go.Proofs.YtaggacffjbjchaaGreatDoor
open Go.RowKit

theorem ro_self (k : List Vl) : rowsOrd k k = 0 := (ro_zero _ _).2 rfl
open Classical in
theorem look_ins {k v : List Vl} (k' : List Vl) : ∀ l : PL, (∀ x ∈ l, x.1 ≠ k) → lookL k' (Tr.ins rowsOrd k v l) = if k' = k then some v else lookL k' l
  | [], _ => by
    simp only [Tr.ins]
    by_cases h : k' = k
    · rw [if_pos h, look_cons_eq ((ro_zero _ _).2 h.symm)]
    · rw [if_neg h, look_cons_ne (fun e => h ((ro_zero _ _).1 e).symm)]
  | (xk, xv) :: l, hx => by
    have ih := look_ins (k := k) (v := v) k' l (fun y hy => hx y (List.mem_cons_of_mem _ hy))
    have hxk : xk ≠ k := hx (xk, xv) List.mem_cons_self
    simp only [Tr.ins]
    split
    · by_cases h : k' = k
      · rw [if_pos h, look_cons_eq ((ro_zero _ _).2 h.symm)]
      · rw [if_neg h, look_cons_ne (fun e => h ((ro_zero _ _).1 e).symm)]
    · by_cases h2 : xk = k'
      · rw [look_cons_eq ((ro_zero _ _).2 h2), look_cons_eq ((ro_zero _ _).2 h2), if_neg (fun e => hxk (h2.trans e))]
      · rw [look_cons_ne (fun e => h2 ((ro_zero _ _).1 e)), look_cons_ne (fun e => h2 ((ro_zero _ _).1 e)), ih]
open Classical in
theorem look_delL (k k' : List Vl) : ∀ l : PL, lookL k' (Tr.delL rowsOrd k l) = if k' = k then none else lookL k' l
  | [] => by simp [Tr.delL, lookL]
  | (xk, xv) :: l => by
    have ih := look_delL k k' l
    rw [Tr.delL_cons]
    by_cases h : rowsOrd xk k = 0
    · have e := (ro_zero _ _).1 h
      rw [if_pos h, List.nil_append, ih]
      by_cases h2 : k' = k
      · rw [if_pos h2, if_pos h2]
      · rw [if_neg h2, if_neg h2, look_cons_ne (fun e2 => h2 (((ro_zero _ _).1 e2).symm.trans e))]
    · rw [if_neg h, List.singleton_append]
      by_cases h2 : xk = k'
      · rw [look_cons_eq ((ro_zero _ _).2 h2), look_cons_eq ((ro_zero _ _).2 h2), if_neg (fun e2 => h ((ro_zero _ _).2 (h2.trans e2)))]
      · rw [look_cons_ne (fun e => h2 ((ro_zero _ _).1 e)), look_cons_ne (fun e => h2 ((ro_zero _ _).1 e)), ih]
theorem delL_ne {k : List Vl} {l : PL} : ∀ x ∈ Tr.delL rowsOrd k l, x.1 ≠ k := fun x hx e => by
  obtain ⟨_, h2⟩ := List.mem_filter.1 hx
  rw [e, ro_self] at h2
  simp at h2
theorem delL_none9 {k : List Vl} : ∀ {l : PL}, lookL k l = none → Tr.delL rowsOrd k l = l
  | [], _ => by simp [Tr.delL]
  | (xk, xv) :: l, h => by
    rw [Tr.delL_cons]
    by_cases h2 : rowsOrd xk k = 0
    · rw [look_cons_eq h2] at h; cases h
    · rw [look_cons_ne h2] at h
      rw [if_neg h2, delL_none9 h, List.singleton_append]
theorem delL_some9 {k r : List Vl} : ∀ {l : PL}, Tr.Sorted rowsOrd l → lookL k l = some r → (Tr.delL rowsOrd k l).length + 1 = l.length
  | [], _, h => by simp [lookL] at h
  | (xk, xv) :: l, hs, h => by
    obtain ⟨h1, h2⟩ := List.pairwise_cons.1 hs
    rw [Tr.delL_cons]
    by_cases h3 : rowsOrd xk k = 0
    · have e := (ro_zero _ _).1 h3
      rw [if_pos h3, List.nil_append, Tr.delL_none (fun y hy e2 => by
        have h4 := h1 y hy
        simp only at h4
        rw [e, (ro_zero _ _).1 e2, ro_self] at h4
        omega), List.length_cons]
    · rw [look_cons_ne h3] at h
      have ih := delL_some9 h2 h
      rw [if_neg h3, List.length_append, List.length_singleton, List.length_cons]
      omega
section
variable {t : Tre}
open Classical in
theorem look_put (hs : Tr.Sorted rowsOrd t.toL) (k r k' : List Vl) : lookL k' (Tr.put rowsOrd k r t).toL = if k' = k then some r else lookL k' t.toL := by
  rw [Tr.put_toL ro_ord k r t hs]
  unfold Tr.putL
  rw [look_ins k' _ delL_ne, look_delL]
  by_cases h : k' = k <;> simp [h]
open Classical in
theorem look_del (hs : Tr.Sorted rowsOrd t.toL) (k k' : List Vl) : lookL k' (Tr.del rowsOrd k t).toL = if k' = k then none else lookL k' t.toL := by
  rw [Tr.del_toL ro_ord t k hs, look_delL]
theorem n_put_new (hs : Tr.Sorted rowsOrd t.toL) {k : List Vl} (r : List Vl) (h : lookL k t.toL = none) : (Tr.put rowsOrd k r t).n = t.n + 1 := by
  rw [Tr.n_toL, Tr.n_toL, Tr.put_toL ro_ord k r t hs]
  unfold Tr.putL
  rw [Tr.ins_len, delL_none9 h]
theorem n_put_old (hs : Tr.Sorted rowsOrd t.toL) {k x : List Vl} (r : List Vl) (h : lookL k t.toL = some x) : (Tr.put rowsOrd k r t).n = t.n := by
  rw [Tr.n_toL, Tr.n_toL, Tr.put_toL ro_ord k r t hs]
  unfold Tr.putL
  rw [Tr.ins_len]
  exact delL_some9 hs h
theorem n_del_old (hs : Tr.Sorted rowsOrd t.toL) {k x : List Vl} (h : lookL k t.toL = some x) : (Tr.del rowsOrd k t).n + 1 = t.n := by
  rw [Tr.n_toL, Tr.n_toL, Tr.del_toL ro_ord t k hs]
  exact delL_some9 hs h
end
/-- The example's catalog. -/
def ExT (ts : List Tb) : Prop := ts.map Tb.p = [(exTab none).p]
theorem ExT.get {ts : List Tb} (h : ExT ts) : ts.length = 1 ∧ (ts.getD 0 default).n = ⟨#[116]⟩ ∧ (ts.getD 0 default).l = exCols ∧ (ts.getD 0 default).k = 1 := by
  unfold ExT at h
  have hl : ts.length = 1 := by simpa using congrArg List.length h
  obtain ⟨t, rfl⟩ := List.length_eq_one_iff.1 hl
  have h : t.p = (exTab none).p := by simpa using h
  exact ⟨rfl, congrArg (·.1) h, congrArg (·.2.1) h, congrArg (·.2.2) h⟩
theorem ExT.tab {ts : List Tb} (h : ExT ts) : tabI ts ⟨#[116]⟩ = some 0 := by
  obtain ⟨h1, h2, _⟩ := h.get
  obtain ⟨t, rfl⟩ := List.length_eq_one_iff.1 h1
  simp only [List.getD_cons_zero] at h2
  unfold tabI
  rw [List.findIdx?_cons, h2]
  simp
def txV (s : ByteArray) : Vl := ⟨3, 0, s⟩
def rX (n : Int) (s : ByteArray) : List Vl := [viV n, txV s]
theorem fits_put (n : Int) (s : ByteArray) (hs : s.size ≤ 60) : FitsV exCols (rX n s) := by
  refine ⟨rfl, fun i hi => ?_⟩
  have hi' : i < 2 := hi
  obtain rfl | rfl : i = 0 ∨ i = 1 := by omega
  · simp [exCols, rX, viV, txV, vvOf, holdsB, Vv.good, goodB]
    try decide +kernel
  · simp [exCols, rX, viV, txV, vvOf, holdsB, Vv.good, goodB, hs]
theorem fits_del (n : Int) : FitsV (exCols.take 1) [viV n] := by
  refine ⟨rfl, fun i hi => ?_⟩
  have hi' : i < 1 := hi
  obtain rfl : i = 0 := by omega
  simp [exCols, viV, vvOf, holdsB, Vv.good, goodB]
  try decide +kernel
open Classical in
theorem ExT.claimPut {ts : List Tb} (h : ExT ts) (sp : List (Int × List Vl)) (n : Int) (s : ByteArray) (a : Ptr) (c : Nat) (hs : s.size ≤ 60) (hsp : sp.any (hitM 0 [viV n]) = false) : claimM ts sp ⟨1, ⟨#[116]⟩, ⟨a, c, rX n s⟩⟩ = .ok (0, [viV n]) := by
  obtain ⟨_, _, h3, h4⟩ := h.get
  unfold claimM
  rw [if_neg (by simp)]
  simp only [h.tab]
  have hk : keyM (ts.getD 0 default) ⟨1, ⟨#[116]⟩, ⟨a, c, rX n s⟩⟩ = some [viV n] := by
    unfold keyM
    rw [if_neg (by simp), h3, h4, if_pos (fits_put n s hs)]
    rfl
  rw [hk]
  have hsp' : sp.any (hitM ((0 : Nat) : Int) [viV n]) = false := hsp
  simp only [hsp']
  rfl
open Classical in
theorem ExT.claimDel {ts : List Tb} (h : ExT ts) (sp : List (Int × List Vl)) (n : Int) (a : Ptr) (c : Nat) (hsp : sp.any (hitM 0 [viV n]) = false) : claimM ts sp ⟨2, ⟨#[116]⟩, ⟨a, c, [viV n]⟩⟩ = .ok (0, [viV n]) := by
  obtain ⟨_, _, h3, h4⟩ := h.get
  unfold claimM
  rw [if_neg (by simp)]
  simp only [h.tab]
  have hk : keyM (ts.getD 0 default) ⟨2, ⟨#[116]⟩, ⟨a, c, [viV n]⟩⟩ = some [viV n] := by
    unfold keyM
    rw [if_pos rfl, h3, h4]
    rw [show (1 : Int).toNat = 1 from rfl, if_pos (fits_del n)]
  rw [hk]
  have hsp' : sp.any (hitM ((0 : Nat) : Int) [viV n]) = false := hsp
  simp only [hsp']
  rfl
end Go.Proofs.YtaggacffjbjchaaGreatDoor
