import Derived.Test.YtpklajadfbigcaaGreatDoorZt34
import Derived.Maps.OwnSet
import Derived.Maps.OwnIn
import Derived.Maps.Views
import Derived.Carry
import Derived.Test.YtpklajadfbigcaaGreatDoorZt13
import Derived.Test.YtpklajadfbigcaaGreatDoorZt19
import Derived.Test.YtpklajadfbigcaaGreatDoorZt28
import Derived.Test.YtpklajadfbigcaaGreatDoorZt22
import Derived.Test.YtpklajadfbigcaaGreatDoorZt32
import Derived.Test.YtpklajadfbigcaaGreatDoorZt31
set_option linter.unusedSimpArgs false
set_option linter.unusedVariables false
namespace Go.Proofs.YtpklajadfbigcaaGreatDoor
open Go.RowKit
set_option linter.unusedVariables false
def kdV (o : Option Int) : Int := o.getD 0
set_option maxRecDepth 100000 in
theorem refKind_any (N : ByteArray) (a : Option Addr) (cap : Nat) (l : List Cl) (K : Int) (M : ByteArray) (w : World) (h : ColsAt w.heap.size w a l) :
    Calls Tryz.prog 23 #[.agg #[.string N, .slice a l.length cap, .int .i64 K], .string M] w fun e w' => e = .returned (.tuple #[.int .i64 (kdV (kdS M l)), .bool (kdS M l).isSome]) ∧ w.grownBy w' none := by
  have g1 := World.grownBy_alloc w (.cells #[.string N, .slice a l.length cap, .int .i64 K] 24) none
  have HC := Lib.hid (refColumn_any N a cap l K M (w.alloc (.cells #[.string N, .slice a l.length cap, .int .i64 K] 24)) ((h.keep g1 (by simp)).mono (by simp)))
  have A1 := Lib.hid (alc1 w (.cells #[.string N, .slice a l.length cap, .int .i64 K] 24))
  have HA := Lib.hid (fun i (hi : i < l.length) => h.at hi)
  have hmax := h.1
  have G1 := Lib.hid g1
  clear g1 h
  by_cases hk : colN M l < l.length
  · have hr : colR M l = (colN M l : Int) := by unfold colR; rw [if_pos hk]
    have hK : kdS M l = some (l.getD (colN M l) default).k := by unfold kdS; rw [if_pos hk]
    rw [hr] at HC
    rw [hK]
    obtain ⟨b, off, rfl, hb, d0, d1, _⟩ := HA.out _ hk
    generalize (l.getD (colN M l) default).k = kk at *
    generalize colN M l = i at *
    have c1 := G1.out.cell d1 (by simp)
    have C1 := Lib.hid c1
    generalize hn : l.length = n at *
    clear d0 d1 hr hK HA hn c1
    have i0 : (0 : Int) ≤ i := by omega
    have i1 : (i : Int) < n := by omega
    have i2 : ¬ (i : Int) < 0 := by omega
    go_enter Tryz.func23, Tryz.ntmps23
    obtain ⟨⟨v0, v1, v2⟩, e0, e1, e2⟩ := boxD3 A1.out
    go_wp2_with fail
    refine (HC.out).mono ?_
    rintro e w2 ⟨rfl, hg⟩
    have A2 := Lib.hid (blkD hg A1.out)
    have c1 := hg.cell C1.out (by simp)
    have G2 := Lib.hid (G1.out.trans hg)
    clear hg v0 v1 v2 e0 e1 e2
    obtain ⟨⟨v0, v1, v2⟩, e0, e1, e2⟩ := boxD3 A2.out
    go_wp2_with fail
    go_ret2
    exact ⟨rfl, G2.out⟩
  · have hr : colR M l = -1 := by unfold colR; rw [if_neg hk]
    have hK : kdS M l = none := by unfold kdS; rw [if_neg hk]
    rw [hr] at HC
    rw [hK]
    generalize hn : l.length = n at *
    clear hr hK hk HA hn
    go_enter Tryz.func23, Tryz.ntmps23
    obtain ⟨⟨v0, v1, v2⟩, e0, e1, e2⟩ := boxD3 A1.out
    go_wp2_with fail
    refine (HC.out).mono ?_
    rintro e w2 ⟨rfl, hg⟩
    have G2 := Lib.hid (G1.out.trans hg)
    clear hg v0 v1 v2 e0 e1 e2
    go_wp2_with fail
    go_ret2
    exact ⟨rfl, G2.out⟩
def okS (g : Nat) : Option Int → Int
  | none => 15
  | some k => if g = 3 ∧ k ≠ 2 then 16 else 0
def itemC (l : List Cl) (g : Nat) (c : ByteArray) : Int := if g = 1 then 0 else okS g (kdS c l)
end Go.Proofs.YtpklajadfbigcaaGreatDoor
namespace Go.Proofs.YtpklajadfbigcaaGreatDoor
open Go.RowKit
set_option linter.unusedVariables false
end Go.Proofs.YtpklajadfbigcaaGreatDoor
namespace Go.Proofs.YtpklajadfbigcaaGreatDoor
open Go.RowKit Go.Shelf
attribute [local go_sem] Oper.semAt_some

theorem sv_key : Go.Maps.Keyed Tryz.prog 9 := Go.Maps.string_keyed Tryz.underlying9
theorem sv_zero (w : World) : (zeroValue 3).run Tryz.prog w = .ok (.int .i64 0) w := by kernel_rfl
abbrev svKey (M : ByteArray) : Lit := .string M.data.toList
theorem svKey_of {M : ByteArray} (h : M.size ≤ maxLen) : keyOf Tryz.prog 9 (.string M) = some (svKey M) := Go.WideMaps.keyOf_string_mk Tryz.underlying9 h
theorem svKey_ne {M N : ByteArray} (h : M ≠ N) : svKey M ≠ svKey N := fun e => h (by
  have h2 : M.data.toList = N.data.toList := by injection e
  cases M; cases N; congr 1; exact Array.toList_inj.1 h2)
def numD (l : List (Cl × Nat)) : DataW Unit := l.foldl (fun D x => D.put (svKey x.1.n) (.lit (.int .i64 (x.2 : Nat)))) (.map [])
def numC (pre : List ColI) : DataW Unit := numD (pre.map (·.1))
theorem numD_snoc (l : List (Cl × Nat)) (x : Cl × Nat) : numD (l ++ [x]) = (numD l).put (svKey x.1.n) (.lit (.int .i64 (x.2 : Nat))) := by simp [numD]
theorem numD_spec : ∀ (cs : List Cl) (i : Nat), Go.Maps.IsMap (numD (cs.zipIdx i).reverse) ∧ ∀ M : ByteArray, Go.Maps.has (numD (cs.zipIdx i).reverse) (svKey M) = decide (colN M cs < cs.length) ∧ (colN M cs < cs.length → ∀ z, (numD (cs.zipIdx i).reverse).atKey (svKey M) z = .lit (.int .i64 ((i + colN M cs : Nat) : Int)))
  | [], i => ⟨Go.Maps.isMap_empty, fun M => ⟨by simp [numD, colN, Go.Maps.has], fun h => by simp [colN] at h⟩⟩
  | c :: r, i => by
    obtain ⟨h1, h2⟩ := numD_spec r (i + 1)
    rw [List.zipIdx_cons, List.reverse_cons, numD_snoc]
    refine ⟨h1.put _ _, fun M => ?_⟩
    by_cases e : c.n = M
    · subst e
      have e0 : colN c.n (c :: r) = 0 := by unfold colN; rw [if_pos rfl]
      rw [e0, Go.Maps.has_put_same h1 (k := svKey c.n) trivial]
      refine ⟨by simp, fun _ z => ?_⟩
      rw [Go.Maps.atKey_put_same h1 (k := svKey c.n) trivial, Nat.add_zero]
    · have e0 : colN M (c :: r) = colN M r + 1 := by show (if c.n = M then 0 else colN M r + 1) = _; rw [if_neg e]
      rw [e0, Go.Maps.has_put_other (svKey_ne (Ne.symm e)), (h2 M).1]
      refine ⟨by simp, fun hlt z => ?_⟩
      rw [Go.Maps.atKey_put_other (svKey_ne (Ne.symm e)), (h2 M).2 (by simpa using hlt) z, show i + 1 + colN M r = i + (colN M r + 1) by omega]
def MapC (W : World) (b : Nat) (cs : List Cl) : Prop := ∃ n D, W.ownsMap Tryz.prog 9 (plainElem (H := Unit) Tryz.prog 3) b n D ∧ ∀ M : ByteArray, Go.Maps.has D (svKey M) = decide (colN M cs < cs.length) ∧ (colN M cs < cs.length → ∀ z, D.atKey (svKey M) z = .lit (.int .i64 (colN M cs : Nat)))
theorem MapC.kept {W W' : World} {b : Nat} {cs : List Cl} (h : MapC W b cs) (hg : W.grownBy W' none) : MapC W' b cs := by
  obtain ⟨n, D, h1, h2⟩ := h
  exact ⟨n, D, h1.kept hg (by simp), h2⟩
theorem KpB_b {Bs n₀ : Nat} {w : World} (hn : n₀ ≤ w.heap.size) (hB : Bs < w.heap.size) (W : World) (l : Nat) (o o' : Obj) (hl : w.heap.size ≤ l) (h : W.heap[l]? = some o) (hc : o.isCells = false) (hk : o.isWalk = false) : KpB Bs n₀ W (W.putObj l o') :=
  ⟨belowK_b hn W l o o' hl h hc hk, (grownBy_putObj' W l o').block Bs (by have := (Array.getElem?_eq_some_iff.1 h).1; omega) (fun e => by cases e; omega)⟩
set_option maxRecDepth 100000 in
set_option maxHeartbeats 4000000 in
theorem numbered_any (TN : ByteArray) (ta : Option Addr) (tcap : Nat) (cs : List Cl) (TK : Int) (w : World) (hC : ColsAt w.heap.size w ta cs) (hs : ∀ c ∈ cs, c.n.size ≤ maxLen) (hl : cs.length ≤ 100000) :
    Calls Tryz.prog 57 #[.agg #[.string TN, .slice ta cs.length tcap, .int .i64 TK]] w fun e w' => (∃ b, e = .returned (.map (some b)) ∧ MapC w' b cs) ∧ w.grownBy w' none := by
  refine (callsIn_wide (n := 3)).1 ?_
  obtain ⟨xs, hxs⟩ := cols_list cs hs hl
  have hxl : xs.length = cs.length := by have := congrArg List.length hxs; simpa using this
  have hmm := @run_makeMap Tryz.prog
  refine callsIn_of_wp_marks Tryz.func57 rfl trivial ?_ rfl
  simp only [Tryz.ntmps57, List.size_toArray, List.length_cons, List.length_nil, Nat.reduceAdd, Nat.reduceSub, Array.replicate_succ, Array.replicate_zero, List.push_toArray, List.append_toArray, List.nil_append, List.cons_append]
  gi_wp2_with (refine ⟨trivial, ?_⟩; gi_at_call 73; refine (back_in Fence.wide 2 trivial rfl _ _ _ _).mono ?_; rintro e w' ⟨rfl, rfl⟩)
  obtain ⟨W0, hW0⟩ : ∃ W0, W0 = (((w.alloc (.cells #[.string TN, .slice ta cs.length tcap, .int .i64 TK] 24)).alloc (.map #[] 0)).alloc (.cells #[.map (some (w.heap.size + 1))] 108)).alloc (.cells #[.slice ta cs.length tcap] 22) := ⟨_, rfl⟩
  have hs0 : W0.heap.size = w.heap.size + 4 := by rw [hW0]; simp
  have hB0 : Below w.heap.size w W0 := by rw [hW0]; exact ((((Below.refl _ w).alloc (Nat.le_refl _) _).alloc (by simp) _).alloc (by simp; omega) _).alloc (by simp; omega) _
  have hO0 : W0.ownsMap Tryz.prog 9 (plainElem (H := Unit) Tryz.prog 3) (w.heap.size + 1) 0 (.map []) := by
    rw [hW0]
    have := World.ownsMap_made (w.alloc (.cells #[.string TN, .slice ta cs.length tcap, .int .i64 TK] 24)) Tryz.prog 9 (plainElem (H := Unit) Tryz.prog 3)
    rw [World.size_alloc] at this
    exact (this.alloc _).alloc _
  have hX0 : Boxed W0 (w.heap.size + 1 + 1) 108 (.map (some (w.heap.size + 1))) := by
    rw [hW0]
    have := Boxed.new ((w.alloc (.cells #[.string TN, .slice ta cs.length tcap, .int .i64 TK] 24)).alloc (.map #[] 0)) 108 (.map (some (w.heap.size + 1)))
    simp only [World.size_alloc] at this
    exact this.kept (World.grownBy_alloc _ _ none) (by simp)
  have hS0 : W0.heap[w.heap.size + 1 + 1 + 1]? = some (.cells #[.slice ta cs.length tcap] 22 (0, 0)) := by
    rw [hW0]
    have := World.alloc_heap_new (((w.alloc (.cells #[.string TN, .slice ta cs.length tcap, .int .i64 TK] 24)).alloc (.map #[] 0)).alloc (.cells #[.map (some (w.heap.size + 1))] 108)) (.cells #[.slice ta cs.length tcap] 22)
    simp only [World.size_alloc] at this
    exact this
  have hC0 : ColsAt w.heap.size W0 ta cs := ⟨hC.1, hC.2.imp id fun ⟨b, off, e, hb, hc⟩ => ⟨b, off, e, hb, fun i hi => ⟨(hB0.cell (p := ⟨b, _, none⟩) hb).trans (hc i hi).1, (hB0.cell (p := ⟨b, _, none⟩) hb).trans (hc i hi).2.1, (hB0.cell (p := ⟨b, _, none⟩) hb).trans (hc i hi).2.2⟩⟩⟩
  rw [← hW0]
  clear hW0 hmm
  refine wpIn_rangeFunc_ownH rfl (by decide) (gf := 81) (lb := #[.pointer (some ⟨w.heap.size + 1 + 1 + 1, 0, none⟩)]) rfl trivial (enters_of Tryz.func81 (by kernel_rfl) rfl)
    (back_stops Fence.wide 2 trivial rfl (by decide) (w.heap.size + 1 + 1 + 1) w.heap.size ta tcap cs hl xs hxs W0 (by omega) hS0 hC0) KpB.trans (KpB_b (by omega) (by omega)) (Below.refl _ _) (fun _ => rfl)
    (fun pre W => (Boxed W (w.heap.size + 1 + 1) 108 (.map (some (w.heap.size + 1))) ∧ W.ownsMap Tryz.prog 9 (plainElem (H := Unit) Tryz.prog 3) (w.heap.size + 1) pre.length (numC pre) ∧ w.heap.size + 4 ≤ W.heap.size) ∧ Below w.heap.size w W)
    (fun _ _ _ => False)
    (OwnFrom.and (fun s A B row hs hg hr => ⟨hs.1.kept hg (fun e => by have := (hr _ e.symm).1; omega), hs.2.1.kept hg (fun e => by have := (hr _ e.symm).1; omega), Nat.le_trans hs.2.2 hg.size⟩) (ownFrom_below (Nat.le_refl _) (by omega)))
    (fun _ _ _ _ _ hs _ _ => hs)
    ⟨⟨hX0, hO0, by omega⟩, hB0⟩
    (fun x a' W => ∃ Bx, W.heap[Bx]? = some (.cells #[.string x.1.1.n, .int .i64 x.1.1.k, .bool x.1.1.b] 47 (0, 0)) ∧ a' = { tmps := #[.agg #[.string TN, .slice ta cs.length tcap, .int .i64 TK], .pointer (some ⟨w.heap.size, 0, none⟩), .map none, .pointer (some ⟨w.heap.size + 1 + 1, 0, none⟩), .int .i64 (x.1.2 : Nat), .pointer (some ⟨Bx, 0, none⟩), .map (some (w.heap.size + 1)), .pointer (some ⟨w.heap.size, 1, none⟩), .slice ta cs.length tcap, .func (.func 81) #[] #[.pointer (some ⟨w.heap.size + 1 + 1 + 1, 0, none⟩)], .int .i64 (x.1.2 : Nat), .agg #[.string x.1.1.n, .int .i64 x.1.1.k, .bool x.1.1.b], undef, undef, undef, undef, undef], defers := [] })
    (fun x a' s X Y row hs hg hr => by
      obtain ⟨Bx, h1, h2⟩ := hs
      exact ⟨Bx, (hg.block Bx (Array.getElem?_eq_some_iff.1 h1).1 (fun e => by obtain ⟨_, o, ho, hc⟩ := hr Bx e.symm; rw [h1] at ho; cases ho; cases hc)).trans h1, h2⟩)
    ?assign ?body ?done ?stop
  case assign =>
    rintro l pre x W K ⟨⟨h1, h2, h3⟩, h4⟩ hK
    unfold encC
    gi_wp2
    exact hK _ _ ((KeepsOthers.alloc _ _).from _) ⟨(Below.refl _ W).alloc h4.size _, (World.grownBy_alloc W _ none).block _ (by omega) (by simp)⟩ ⟨⟨h1.kept (World.grownBy_alloc W _ none) (by simp), h2.alloc _, by simp; omega⟩, h4.alloc h4.size _⟩ ⟨_, World.alloc_heap_new W _, rfl⟩
  case body =>
    rintro l pre x a' W hl' ⟨r, hr⟩ ⟨⟨h1, h2, h3⟩, h4⟩ ⟨Bx, hBx, rfl⟩ hlt
    have c0 := h1.cell
    have c1 : W.cell? ⟨Bx, 0, none⟩ = some (.string x.1.1.n) := by simp [World.cell?, hBx]
    gi_wp2_with (gi_at_mapUpdate; refine wpListIn_mapUpdate_own _ rfl _ _ _ 108 rfl 9 3 sv_key Tryz.underlying108 _ (w.heap.size + 1) pre.length _ rfl h2 (by unfold maxLen; omega) _ _ _ rfl rfl (svKey_of x.2.2) _ [] (plainElem_int Tryz.underlying3 (WalkArith.wf_i64 (by have := x.2.1; omega))) ?_; intro w1 hown1 hgrow1)
    refine ⟨KeepsFrom.of_grownBy hgrow1 (fun j e => by cases e; omega), ⟨(Below.refl _ W).grown hgrow1 h4.size (fun k e => by cases e; omega), hgrow1.block _ (by omega) (fun e => by have := Option.some.inj e; omega)⟩, ⟨h1.kept hgrow1 (fun e => by have := Option.some.inj e; omega), ?_, Nat.le_trans h3 hgrow1.size⟩, h4.grown hgrow1 h4.size (fun k e => by cases e; omega)⟩
    unfold numC
    rw [List.map_append, List.length_append]
    show w1.ownsMap _ _ _ _ _ (numD (pre.map (·.1) ++ [x.1]))
    rw [numD_snoc]
    exact hown1
  case done =>
    rintro D ys W hD rfl ⟨⟨h1, h2, h3⟩, h4⟩ hK
    have c0 := h1.cell
    gi_wp2
    refine ⟨by simp, .inl ⟨_, _, rfl, run_takeDeferred hK, ?_⟩⟩
    refine ⟨_, results_tmp rfl _ _ _, ⟨_, rfl, ys.length, _, h2.kept (grownBy_putObj' W D _) (fun e => by cases e; omega), ?_⟩, ?_⟩
    · unfold numC
      rw [hxs]
      intro M
      have := (numD_spec cs 0).2 M
      rw [show (cs.zipIdx 0) = cs.zipIdx from rfl] at this
      simpa using this
    · exact grown_belowX (h4.trans (belowK_b (w := w) (Nat.le_refl _) W D _ _ (by omega) hK rfl rfl)) none
  case stop =>
    rintro D c pre W _ _ h _
    exact h.elim
end Go.Proofs.YtpklajadfbigcaaGreatDoor
namespace Go.Proofs.YtpklajadfbigcaaGreatDoor
open Go.RowKit
set_option linter.unusedVariables false
theorem tab_size : (Tryz.prog.info? 24).map (·.size) = some 3 := by kernel_rfl
mutual
def Prd.w1 : Prd → Prop
  | .mk k _ _ _ _ ls ks _ => (k = 11 → ls ≠ []) ∧ Prd.w1s ks
def Prd.w1s : List Prd → Prop
  | [] => True
  | x :: r => x.w1 ∧ Prd.w1s r
end
end Go.Proofs.YtpklajadfbigcaaGreatDoor
namespace Go.Proofs.YtpklajadfbigcaaGreatDoor
open Go.RowKit
set_option linter.unusedVariables false
theorem CellsS.atAnyS {S : Nat → Prop} {w : World} {a : Option Addr} {xs : List Value} (h : CellsS S w a xs) : ∀ ad, a = some ad → ∀ j u, xs[j]? = some u → w.cell? (ad.add j) = some u := fun ad e => by
  subst e; exact h.at
end Go.Proofs.YtpklajadfbigcaaGreatDoor
