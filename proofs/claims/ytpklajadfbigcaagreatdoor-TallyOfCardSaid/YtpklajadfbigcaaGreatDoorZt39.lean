import Derived.Test.YtpklajadfbigcaaGreatDoorZt38
import Derived.Test.YtpklajadfbigcaaGreatDoorZt06
import Derived.Test.YtpklajadfbigcaaGreatDoorZt19
import Derived.Test.YtpklajadfbigcaaGreatDoorZt15
import Derived.Test.YtpklajadfbigcaaGreatDoorZt10
set_option linter.unusedSimpArgs false
set_option linter.unusedVariables false
namespace Go.Proofs.YtpklajadfbigcaaGreatDoor
open Go.RowKit
set_option linter.unusedVariables false
set_option linter.unusedSimpArgs false
theorem tnumber_any (n : Int) (w : World) : Calls Tryz.prog 68 #[.int .i64 n] w fun e w' => e = .returned (.agg #[.int .i64 2, .int .i64 n, .string ⟨#[]⟩]) ∧ w.grownBy w' none := by
  obtain ⟨⟨a0, a1, a2⟩, a3, a4, a5⟩ := three_of (heap_alloc_new w (.cells #[.int .i64 0, .int .i64 0, .string ⟨#[]⟩] 37))
  go_enter Tryz.func68, Tryz.ntmps68
  go_wp2_with fail
  exact bodyPost_ret (results_cell_row rfl _ _ w.heap.size 37 #[.int .i64 2, .int .i64 n, .string ⟨#[]⟩] (0, 0) _ rfl (heap_alloc_new w _) Tryz.underlying37 rfl (by kernel_rfl)) rfl ⟨rfl, World.grownBy_alloc w _ none⟩
theorem tnull_any (k n : Int) (s : ByteArray) (w : World) : Calls Tryz.prog 44 #[.agg #[.int .i64 k, .int .i64 n, .string s]] w fun e w' => e = .returned (.bool (k == 0)) ∧ w.grownBy w' none := by
  go_enter Tryz.func44, Tryz.ntmps44
  go_wp2_with fail
  go_ret
  exact ⟨rfl, World.grownBy_alloc w _ none⟩
theorem tturned_any (x y : Vl) (w : World) : Calls Tryz.prog 27 #[.agg #[.int .i64 x.k, .int .i64 x.n, .string x.s], .agg #[.int .i64 y.k, .int .i64 y.n, .string y.s]] w fun e w' => e = .returned (.int .i64 (y.ord x)) ∧ w.grownBy w' none := by
  have HC := Lib.hid (fun W => cmpC_any y.k y.n y.s x.k x.n x.s W)
  have ho : ordC y.k y.n y.s x.k x.n x.s = y.ord x := rfl
  rw [ho] at HC
  generalize y.ord x = o at *
  clear ho
  obtain ⟨xk, xn, xs⟩ := x
  obtain ⟨yk, yn, ys⟩ := y
  dsimp only at *
  go_enter Tryz.func27, Tryz.ntmps27
  go_wp2_with fail
  refine (HC.out _).mono ?_
  rintro e w1 ⟨rfl, hb⟩
  go_wp2_with fail
  go_ret
  exact ⟨rfl, ((World.grownBy_alloc w _ none).trans (World.grownBy_alloc _ _ none)).trans (grown_belowX hb none)⟩
end Go.Proofs.YtpklajadfbigcaaGreatDoor
namespace Go.Proofs.YtpklajadfbigcaaGreatDoor
open Go.RowKit
set_option linter.unusedVariables false
set_option linter.unusedSimpArgs false
theorem append_types {sl sl2 e e2 : TypeId} {z : Value} {sz by' : Nat} (E : ElT sl e z sz by') (h2 : Tryz.prog.underlying sl2 = some (.slice e2)) (ty : TypeId) (a : Option Addr) (n cap : Nat) (A : Option Addr) (m c : Nat) (w : World) : (Builtin.append_ #[sl, sl2] ty #[.slice a n cap, .slice A m c]).run Tryz.prog w = (Builtin.append_ #[sl, sl] ty #[.slice a n cap, .slice A m c]).run Tryz.prog w := by
  obtain ⟨i0, hi, hz0, hz1, hz2⟩ := E.inf
  simp [Builtin.append_, run_underlying E.und, run_underlying h2, sizeOf, typeInfo, hi]
theorem wp_append_winB {o : Oper} {act : Act} {K : Act → World → Prop} {Q : Exit → Act → World → Prop} {w : World} (s x : Operand) {sl sl2 e e2 : TypeId} {z : Value} {sz by' : Nat} (E : ElT sl e z sz by') (h2 : Tryz.prog.underlying sl2 = some (.slice e2))
    (ho : o.op = .call { callee := .builtin .append, args := #[s, x], argTypes := #[sl, sl2] })
    {a : Option Addr} {cap n : Nat} {xs : List Value} (h : Win sz w a cap n xs)
    (hs : act.eval s = .slice a n cap) (A : Option Addr) (m c : Nat) (hx : act.eval x = .slice A m c) (news : List Value) (hA : A = none → m = 0) (hnl : news.length = m * sz) (hn : n + m ≤ 1000000) (hnews : ∀ ad, A = some ad → ∀ j u, news[j]? = some u → w.cell? (ad.add j) = some u) (h1 : ∀ u ∈ news, u.oneCell' = true)
    (hk : ∀ a' cap' w', Win sz w' a' cap' (n + m) (xs ++ news) → Only (bk a) w w' → (∀ k, bk a' k → bk a k ∨ w.heap.size ≤ k) → (PlA a → PlA a') → K (act.put o.dst (.slice a' (n + m) cap')) w') :
    Oper.wp Tryz.prog o act w K Q := by
  obtain ⟨a', cap', w', hr, h2', h3, h4, h5⟩ := run_append_winA E h A m c news hA hnl hn hnews h1 o.type
  unfold Oper.wp execOp
  rw [← append_types E h2] at hr
  simp only [ho, resolve, invoke, builtin, Sem.run_bind, Sem.run_pure, Result.andThen_ok, List.map_toArray, List.map_cons, List.map_nil, hs, hx, hr]
  exact hk a' cap' w' h2' h3 h4 h5
theorem wpList_append_winB {ops : Array Oper} {rest : List Oper} {o : Oper} {act : Act} {Q : Exit → Act → World → Prop} {w : World} (hgd : o.guard = none) (s x : Operand) {sl sl2 e e2 : TypeId} {z : Value} {sz by' : Nat} (E : ElT sl e z sz by') (h2 : Tryz.prog.underlying sl2 = some (.slice e2))
    (ho : o.op = .call { callee := .builtin .append, args := #[s, x], argTypes := #[sl, sl2] })
    {a : Option Addr} {cap n : Nat} {xs : List Value} (h : Win sz w a cap n xs)
    (hs : act.eval s = .slice a n cap) (A : Option Addr) (m c : Nat) (hx : act.eval x = .slice A m c) (news : List Value) (hA : A = none → m = 0) (hnl : news.length = m * sz) (hn : n + m ≤ 1000000) (hnews : ∀ ad, A = some ad → ∀ j u, news[j]? = some u → w.cell? (ad.add j) = some u) (h1 : ∀ u ∈ news, u.oneCell' = true)
    (hk : ∀ a' cap' w', Win sz w' a' cap' (n + m) (xs ++ news) → Only (bk a) w w' → (∀ k, bk a' k → bk a k ∨ w.heap.size ≤ k) → (PlA a → PlA a') → wpList Tryz.prog ops Q rest (act.put o.dst (.slice a' (n + m) cap')) w') :
    wpList Tryz.prog ops Q (o :: rest) act w := by
  refine wpList_plain hgd fun K hK' => ?_
  exact wp_append_winB s x E h2 ho h hs A m c hx news hA hnl hn hnews h1 fun a' cap' w' h2 h3 h4 h5 => hK' _ _ (hk a' cap' w' h2 h3 h4 h5)
end Go.Proofs.YtpklajadfbigcaaGreatDoor
namespace Go.Proofs.YtpklajadfbigcaaGreatDoor
open Go.RowKit
set_option linter.unusedVariables false
set_option linter.unusedSimpArgs false
theorem range_two {w : World} {b : Nat} {v0 v1 v2 v3 : Value} {T : TypeId} (h : w.heap[b]? = some (.cells #[v0, v1, v2, v3] T (0, 0))) : w.rangeAt b 2 [v2, v3] := fun j u hj => by
  rw [cell_of_row _ _ _ _ _ _ h]
  match j, hj with
  | 0, hj => simpa using hj
  | 1, hj => simpa using hj
theorem grown_set4 {w0 w : World} {row : Option Nat} (h : w0.grownBy w row) {b : Nat} (hb : w0.heap.size ≤ b) (u0 u1 u2 u3 : Value) : w0.grownBy ((((w.setCell ⟨b, 0, none⟩ u0).setCell ⟨b, 1, none⟩ u1).setCell ⟨b, 2, none⟩ u2).setCell ⟨b, 3, none⟩ u3) row :=
  grown_setnewX (grown_setnewX (grown_setnewX (grown_setnewX h hb 0 u0) hb 1 u1) hb 2 u2) hb 3 u3
theorem sum_size : (Tryz.prog.info? 75).map (·.size) = some 2 := by kernel_rfl
abbrev cntV (a s : Int) (x : BitVec 128) : Value := .agg #[.int .i64 a, .int .i64 s, .int .i64 (Wd.hiB x), .int .u64 (Wd.loB x)]
def cntS (v : Vl) (s : Int) : Int := if v.k = 0 then s else s + 1
def cntX (v : Vl) (x : BitVec 128) : BitVec 128 := if v.k = 2 then x + BitVec.ofInt 128 v.n else x
set_option maxRecDepth 100000 in
set_option maxHeartbeats 6400000 in
theorem moved_any (a s : Int) (x : BitVec 128) (v : Vl) (w : World) (ha : 0 ≤ a ∧ a ≤ 1000000) (hs : 0 ≤ s ∧ s ≤ 1000000) (hn : v.k = 2 → -9223372036854775808 ≤ v.n ∧ v.n ≤ 9223372036854775807) :
    Calls Tryz.prog 49 #[cntV a s x, .agg #[.int .i64 v.k, .int .i64 v.n, .string v.s], .int .i64 1, .func (.func 50) #[] #[]] w fun e w' => e = .returned (cntV (a + 1) (cntS v s) (cntX v x)) ∧ w.grownBy w' none := by
  obtain ⟨k, n, t⟩ := v
  dsimp only at hn ⊢
  obtain ⟨a0, a1⟩ := ha
  obtain ⟨s0, s1⟩ := hs
  unfold cntS cntX cntV
  dsimp only
  by_cases h2 : k = 2
  · subst h2
    rw [if_neg (by decide), if_pos rfl]
    obtain ⟨n0, n1⟩ := hn rfl
    have HO := Lib.hid (fun W => Wd.of_any n W n0 n1)
    have HS := Lib.hid (fun W => Wd.add_any x (BitVec.ofInt 128 n) W)
    generalize BitVec.ofInt 128 n = y at *
    generalize Wd.hiB (x + y) = hz at *
    generalize Wd.loB (x + y) = lz at *
    generalize Wd.hiB x = h at *
    generalize Wd.loB x = l at *
    generalize Wd.hiB y = hy at *
    generalize Wd.loB y = ly at *
    clear n0 n1 hn
    go_enter Tryz.func49, Tryz.ntmps49
    go_upto_region 5 with fail
    have hC2 : (((w.alloc (.cells #[.int .i64 (a + 1), .int .i64 s, .int .i64 h, .int .u64 l] 77)).alloc (.cells #[.int .i64 2, .int .i64 n, .string t] 37)).alloc (.cells #[.int .i64 0, .int .i64 0, .int .i64 0, .int .u64 0] 77)).heap[w.heap.size]? = some (.cells #[.int .i64 (a + 1), .int .i64 s, .int .i64 h, .int .u64 l] 77 (0, 0)) := blkD ((World.grownBy_alloc _ _ none).trans (World.grownBy_alloc _ _ none)) (heap_alloc_new w _)
    have hV2 : (((w.alloc (.cells #[.int .i64 (a + 1), .int .i64 s, .int .i64 h, .int .u64 l] 77)).alloc (.cells #[.int .i64 2, .int .i64 n, .string t] 37)).alloc (.cells #[.int .i64 0, .int .i64 0, .int .i64 0, .int .u64 0] 77)).heap[w.heap.size + 1]? = some (.cells #[.int .i64 2, .int .i64 n, .string t] 37 (0, 0)) := blkD (World.grownBy_alloc _ _ none) (by have := heap_alloc_new (w.alloc (.cells #[.int .i64 (a + 1), .int .i64 s, .int .i64 h, .int .u64 l] 77)) (.cells #[.int .i64 2, .int .i64 n, .string t] (37)); rw [World.size_alloc] at this; exact this)
    have hR2 := Wd.heap3 w (.cells #[.int .i64 (a + 1), .int .i64 s, .int .i64 h, .int .u64 l] 77) (.cells #[.int .i64 2, .int .i64 n, .string t] 37) (.cells #[.int .i64 0, .int .i64 0, .int .i64 0, .int .u64 0] 77)
    have hg2 := ((World.grownBy_alloc w (.cells #[.int .i64 (a + 1), .int .i64 s, .int .i64 h, .int .u64 l] 77) none).trans (World.grownBy_alloc _ (.cells #[.int .i64 2, .int .i64 n, .string t] 37) none)).trans (World.grownBy_alloc _ (.cells #[.int .i64 0, .int .i64 0, .int .i64 0, .int .u64 0] 77) none)
    generalize ((w.alloc (.cells #[.int .i64 (a + 1), .int .i64 s, .int .i64 h, .int .u64 l] 77)).alloc (.cells #[.int .i64 2, .int .i64 n, .string t] 37)).alloc (.cells #[.int .i64 0, .int .i64 0, .int .i64 0, .int .u64 0] 77) = w2 at *
    have C2 := Lib.hid hC2
    have V2 := Lib.hid hV2
    have R2 := Lib.hid hR2
    have G2 := Lib.hid hg2
    clear hC2 hV2 hR2 hg2
    obtain ⟨g, hg⟩ : ∃ g, g = w.heap.size := ⟨_, rfl⟩
    have HG := Lib.hid hg
    rw [← hg] at C2 V2 R2 ⊢
    clear hg
    refine wp_region_held_drew (S := (fun W => Hid True)) (by kernel_rfl) (Lib.hid trivial) (fun hHeld => ?_)
    refine TKB (i := 0) (v := ?vaz) rfl ?yaz ?raz
    case yaz => (intro w hSw; (try dsimp only at hSw); go_simp; try with_reducible rfl)
    simp only [Act.put, List.getElem_toArray, List.getElem_cons_succ, List.getElem_cons_zero, List.size_toArray, List.length_cons, List.length_nil, Nat.reduceAdd, Array.replicate, List.replicate, List.setIfInBounds_toArray, List.set_cons_zero, List.set_cons_succ]
    refine TKB (i := 1) (v := ?vbz) rfl ?ybz ?rbz
    case ybz => (intro w hSw; (try dsimp only at hSw); go_simp; try with_reducible rfl)
    simp only [Act.put, List.getElem_toArray, List.getElem_cons_succ, List.getElem_cons_zero, List.size_toArray, List.length_cons, List.length_nil, Nat.reduceAdd, Array.replicate, List.replicate, List.setIfInBounds_toArray, List.set_cons_zero, List.set_cons_succ]
    refine TKB (i := 3) (v := ?vcz) rfl ?ycz ?rcz
    case ycz => (intro w hSw; (try dsimp only at hSw); go_simp; try with_reducible rfl)
    simp only [Act.put, List.getElem_toArray, List.getElem_cons_succ, List.getElem_cons_zero, List.size_toArray, List.length_cons, List.length_nil, Nat.reduceAdd, Array.replicate, List.replicate, List.setIfInBounds_toArray, List.set_cons_zero, List.set_cons_succ]
    refine wpAnyH_ready (rs := [2, 4]) (by kernel_rfl) (by simp) ?_
    refine (AllReadyH.cons rfl (fun K' hK => ?_) (AllReadyH.cons rfl (fun K' hK => ?_) AllReadyH.nil))
    · skip
      obtain ⟨⟨b0, b1, b2, b3⟩, b4, b5, b6, b7⟩ := four_of (w := w2.drew) C2.out
      go_simp
      clear b0 b1 b2 b3 b4 b5 b6 b7
      refine hK.out _ _ (Lib.hid trivial) (fun hHeld => ?_)
      clear hK K'
      simp only [Act.put, List.getElem_toArray, List.getElem_cons_succ, List.getElem_cons_zero, List.size_toArray, List.length_cons, List.length_nil, Nat.reduceAdd, Array.replicate, List.replicate, List.setIfInBounds_toArray, List.set_cons_zero, List.set_cons_succ]
      refine RD1 (i := 4) rfl (fun K' hK => ?_)
      obtain ⟨⟨q0, q1, q2⟩, q3, q4, q5⟩ := three_of (w := w2.drew) V2.out
      go_simp
      clear q0 q1 q2 q3 q4 q5
      refine hK.out _ _ (Lib.hid trivial) (fun hHeld => ?_)
      clear hK K'
      simp only [Act.put, List.getElem_toArray, List.getElem_cons_succ, List.getElem_cons_zero, List.size_toArray, List.length_cons, List.length_nil, Nat.reduceAdd, Array.replicate, List.replicate, List.setIfInBounds_toArray, List.set_cons_zero, List.set_cons_succ]
      refine RD1 (i := 5) rfl (fun K' hK => ?_)
      go_simp
      go_at_call 66
      refine (HO.out _).mono ?_
      rintro e w3 ⟨rfl, hb⟩
      have Z3 : Hid (w2.grownBy w3 none) := Lib.hid ((grown_drewT (grown_reflX w2 none)).trans (grown_belowX hb none))
      have C3 := Lib.hid (blkD Z3.out C2.out)
      have V3 := Lib.hid (blkD Z3.out V2.out)
      clear hb
      refine hK.out _ _ (Lib.hid trivial) (fun hHeld => ?_)
      clear hK K'
      simp only [Act.put, List.getElem_toArray, List.getElem_cons_succ, List.getElem_cons_zero, List.size_toArray, List.length_cons, List.length_nil, Nat.reduceAdd, Array.replicate, List.replicate, List.setIfInBounds_toArray, List.set_cons_zero, List.set_cons_succ]
      refine RD1 (i := 6) rfl (fun K' hK => ?_)
      go_simp
      go_at_call 50
      refine (HS.out _).mono ?_
      rintro e w4 ⟨rfl, hb⟩
      have Z4 : Hid (w2.grownBy w4 none) := Lib.hid (Z3.out.trans (grown_belowX hb none))
      clear hb
      have C4 := Lib.hid (blkD Z4.out C2.out)
      have R4 := Lib.hid (blkD Z4.out R2.out)
      refine hK.out _ _ (Lib.hid trivial) (fun hHeld => ?_)
      clear hK K'
      simp only [Act.put, List.getElem_toArray, List.getElem_cons_succ, List.getElem_cons_zero, List.size_toArray, List.length_cons, List.length_nil, Nat.reduceAdd, Array.replicate, List.replicate, List.setIfInBounds_toArray, List.set_cons_zero, List.set_cons_succ]
      refine TKB (i := 7) (v := ?vdz) rfl ?ydz ?rdz
      case ydz => (intro w hSw; (try dsimp only at hSw); go_simp; try with_reducible rfl)
      simp only [Act.put, List.getElem_toArray, List.getElem_cons_succ, List.getElem_cons_zero, List.size_toArray, List.length_cons, List.length_nil, Nat.reduceAdd, Array.replicate, List.replicate, List.setIfInBounds_toArray, List.set_cons_zero, List.set_cons_succ]
      refine RD1 (i := 8) rfl (fun K' hK => ?_)
      obtain ⟨⟨b0, b1, b2, b3⟩, b4, b5, b6, b7⟩ := four_of C4.out
      go_simp
      refine hK.out _ _ (Lib.hid trivial) (fun hHeld => ?_)
      clear hK K'
      simp only [Act.put, List.getElem_toArray, List.getElem_cons_succ, List.getElem_cons_zero, List.size_toArray, List.length_cons, List.length_nil, Nat.reduceAdd, Array.replicate, List.replicate, List.setIfInBounds_toArray, List.set_cons_zero, List.set_cons_succ]
      refine wpAnyH_done (by kernel_rfl) ?_ _
      clear hHeld b0 b1 b2 b3 b4 b5 b6 b7 HO HS C3 V3 V2
      have hC5 := heap_setCell_same _ _ 3 _ _ (.int .u64 lz) (heap_setCell_same _ _ 2 _ _ (.int .i64 hz) C4.out)
      have hR5 : ((w4.setCell ⟨g, 2, none⟩ (.int .i64 hz)).setCell ⟨g, 3, none⟩ (.int .u64 lz)).heap[g + 1 + 1]? = some (.cells #[.int .i64 0, .int .i64 0, .int .i64 0, .int .u64 0] 77 (0, 0)) := ((grown_setX (grown_cellR w4 g 2 (.int .i64 hz)) 3 (.int .u64 lz)).block (g + 1 + 1) (Array.getElem?_eq_some_iff.1 R4.out).1 (by simp; omega)).trans R4.out
      have hg5 := grown_setnewX (grown_setnewX (G2.out.trans Z4.out) (b := g) (by rw [HG.out]; exact Nat.le_refl _) 2 (.int .i64 hz)) (b := g) (by rw [HG.out]; exact Nat.le_refl _) 3 (.int .u64 lz)
      generalize (w4.setCell ⟨g, 2, none⟩ (.int .i64 hz)).setCell ⟨g, 3, none⟩ (.int .u64 lz) = w5 at *
      have hC6 : w5.heap[g]? = some (.cells #[.int .i64 (a + 1), .int .i64 s, .int .i64 hz, .int .u64 lz] 77 (0, 0)) := by simpa using hC5
      have R5 := Lib.hid hR5
      have C6 := Lib.hid hC6
      have G5 := Lib.hid hg5
      clear hC5 hR5 hg5 hC6 C4 R4 Z4 Z3 C2 R2 G2
      obtain ⟨⟨b0, b1, b2, b3⟩, b4, b5, b6, b7⟩ := four_of C6.out
      obtain ⟨⟨r0, r1, r2, r3⟩, r4, r5, r6, r7⟩ := four_of R5.out
      go_wp2_with fail
      have hX := heap_setCell_same _ _ 1 _ _ (.int .i64 (s + 1)) C6.out
      have hY : (w5.setCell ⟨g, 1, none⟩ (.int .i64 (s + 1))).heap[g + 1 + 1]? = some (.cells #[.int .i64 0, .int .i64 0, .int .i64 0, .int .u64 0] 77 (0, 0)) := ((grown_cellR w5 g 1 (.int .i64 (s + 1))).block (g + 1 + 1) (Array.getElem?_eq_some_iff.1 R5.out).1 (by simp; omega)).trans R5.out
      have hG := grown_setnewX G5.out (b := g) (by rw [HG.out]; exact Nat.le_refl _) 1 (.int .i64 (s + 1))
      exact bodyPost_ret (results_cell_row rfl _ _ (g + 1 + 1) 77 #[.int .i64 (a + 1), .int .i64 (s + 1), .int .i64 hz, .int .u64 lz] (0, 0) _ rfl (set4 hY) Tryz.underlying77 rfl (by kernel_rfl)) rfl ⟨rfl, grown_set4 hG (by rw [HG.out]; omega) _ _ _ _⟩
    · skip
      obtain ⟨⟨q0, q1, q2⟩, q3, q4, q5⟩ := three_of (w := w2.drew) V2.out
      go_simp
      clear q0 q1 q2 q3 q4 q5
      refine hK.out _ _ (Lib.hid trivial) (fun hHeld => ?_)
      clear hK K'
      simp only [Act.put, List.getElem_toArray, List.getElem_cons_succ, List.getElem_cons_zero, List.size_toArray, List.length_cons, List.length_nil, Nat.reduceAdd, Array.replicate, List.replicate, List.setIfInBounds_toArray, List.set_cons_zero, List.set_cons_succ]
      refine wpAnyH_ready (rs := [2, 5]) (by kernel_rfl) (by simp) ?_
      refine (AllReadyH.cons rfl (fun K' hK => ?_) (AllReadyH.cons rfl (fun K' hK => ?_) AllReadyH.nil))
      · skip
        obtain ⟨⟨b0, b1, b2, b3⟩, b4, b5, b6, b7⟩ := four_of (w := w2.drew) C2.out
        go_simp
        clear b0 b1 b2 b3 b4 b5 b6 b7
        refine hK.out _ _ (Lib.hid trivial) (fun hHeld => ?_)
        clear hK K'
        simp only [Act.put, List.getElem_toArray, List.getElem_cons_succ, List.getElem_cons_zero, List.size_toArray, List.length_cons, List.length_nil, Nat.reduceAdd, Array.replicate, List.replicate, List.setIfInBounds_toArray, List.set_cons_zero, List.set_cons_succ]
        refine RD1 (i := 5) rfl (fun K' hK => ?_)
        go_simp
        go_at_call 66
        refine (HO.out _).mono ?_
        rintro e w3 ⟨rfl, hb⟩
        have Z3 : Hid (w2.grownBy w3 none) := Lib.hid ((grown_drewT (grown_reflX w2 none)).trans (grown_belowX hb none))
        have C3 := Lib.hid (blkD Z3.out C2.out)
        have V3 := Lib.hid (blkD Z3.out V2.out)
        clear hb
        refine hK.out _ _ (Lib.hid trivial) (fun hHeld => ?_)
        clear hK K'
        simp only [Act.put, List.getElem_toArray, List.getElem_cons_succ, List.getElem_cons_zero, List.size_toArray, List.length_cons, List.length_nil, Nat.reduceAdd, Array.replicate, List.replicate, List.setIfInBounds_toArray, List.set_cons_zero, List.set_cons_succ]
        refine RD1 (i := 6) rfl (fun K' hK => ?_)
        go_simp
        go_at_call 50
        refine (HS.out _).mono ?_
        rintro e w4 ⟨rfl, hb⟩
        have Z4 : Hid (w2.grownBy w4 none) := Lib.hid (Z3.out.trans (grown_belowX hb none))
        clear hb
        have C4 := Lib.hid (blkD Z4.out C2.out)
        have R4 := Lib.hid (blkD Z4.out R2.out)
        refine hK.out _ _ (Lib.hid trivial) (fun hHeld => ?_)
        clear hK K'
        simp only [Act.put, List.getElem_toArray, List.getElem_cons_succ, List.getElem_cons_zero, List.size_toArray, List.length_cons, List.length_nil, Nat.reduceAdd, Array.replicate, List.replicate, List.setIfInBounds_toArray, List.set_cons_zero, List.set_cons_succ]
        refine TKB (i := 7) (v := ?vez) rfl ?yez ?rez
        case yez => (intro w hSw; (try dsimp only at hSw); go_simp; try with_reducible rfl)
        simp only [Act.put, List.getElem_toArray, List.getElem_cons_succ, List.getElem_cons_zero, List.size_toArray, List.length_cons, List.length_nil, Nat.reduceAdd, Array.replicate, List.replicate, List.setIfInBounds_toArray, List.set_cons_zero, List.set_cons_succ]
        refine RD1 (i := 8) rfl (fun K' hK => ?_)
        obtain ⟨⟨b0, b1, b2, b3⟩, b4, b5, b6, b7⟩ := four_of C4.out
        go_simp
        refine hK.out _ _ (Lib.hid trivial) (fun hHeld => ?_)
        clear hK K'
        simp only [Act.put, List.getElem_toArray, List.getElem_cons_succ, List.getElem_cons_zero, List.size_toArray, List.length_cons, List.length_nil, Nat.reduceAdd, Array.replicate, List.replicate, List.setIfInBounds_toArray, List.set_cons_zero, List.set_cons_succ]
        refine wpAnyH_done (by kernel_rfl) ?_ _
        clear hHeld b0 b1 b2 b3 b4 b5 b6 b7 HO HS C3 V3 V2
        have hC5 := heap_setCell_same _ _ 3 _ _ (.int .u64 lz) (heap_setCell_same _ _ 2 _ _ (.int .i64 hz) C4.out)
        have hR5 : ((w4.setCell ⟨g, 2, none⟩ (.int .i64 hz)).setCell ⟨g, 3, none⟩ (.int .u64 lz)).heap[g + 1 + 1]? = some (.cells #[.int .i64 0, .int .i64 0, .int .i64 0, .int .u64 0] 77 (0, 0)) := ((grown_setX (grown_cellR w4 g 2 (.int .i64 hz)) 3 (.int .u64 lz)).block (g + 1 + 1) (Array.getElem?_eq_some_iff.1 R4.out).1 (by simp; omega)).trans R4.out
        have hg5 := grown_setnewX (grown_setnewX (G2.out.trans Z4.out) (b := g) (by rw [HG.out]; exact Nat.le_refl _) 2 (.int .i64 hz)) (b := g) (by rw [HG.out]; exact Nat.le_refl _) 3 (.int .u64 lz)
        generalize (w4.setCell ⟨g, 2, none⟩ (.int .i64 hz)).setCell ⟨g, 3, none⟩ (.int .u64 lz) = w5 at *
        have hC6 : w5.heap[g]? = some (.cells #[.int .i64 (a + 1), .int .i64 s, .int .i64 hz, .int .u64 lz] 77 (0, 0)) := by simpa using hC5
        have R5 := Lib.hid hR5
        have C6 := Lib.hid hC6
        have G5 := Lib.hid hg5
        clear hC5 hR5 hg5 hC6 C4 R4 Z4 Z3 C2 R2 G2
        obtain ⟨⟨b0, b1, b2, b3⟩, b4, b5, b6, b7⟩ := four_of C6.out
        obtain ⟨⟨r0, r1, r2, r3⟩, r4, r5, r6, r7⟩ := four_of R5.out
        go_wp2_with fail
        have hX := heap_setCell_same _ _ 1 _ _ (.int .i64 (s + 1)) C6.out
        have hY : (w5.setCell ⟨g, 1, none⟩ (.int .i64 (s + 1))).heap[g + 1 + 1]? = some (.cells #[.int .i64 0, .int .i64 0, .int .i64 0, .int .u64 0] 77 (0, 0)) := ((grown_cellR w5 g 1 (.int .i64 (s + 1))).block (g + 1 + 1) (Array.getElem?_eq_some_iff.1 R5.out).1 (by simp; omega)).trans R5.out
        have hG := grown_setnewX G5.out (b := g) (by rw [HG.out]; exact Nat.le_refl _) 1 (.int .i64 (s + 1))
        exact bodyPost_ret (results_cell_row rfl _ _ (g + 1 + 1) 77 #[.int .i64 (a + 1), .int .i64 (s + 1), .int .i64 hz, .int .u64 lz] (0, 0) _ rfl (set4 hY) Tryz.underlying77 rfl (by kernel_rfl)) rfl ⟨rfl, grown_set4 hG (by rw [HG.out]; omega) _ _ _ _⟩
      · go_simp
        go_at_call 66
        refine (HO.out _).mono ?_
        rintro e w3 ⟨rfl, hb⟩
        have Z3 : Hid (w2.grownBy w3 none) := Lib.hid ((grown_drewT (grown_reflX w2 none)).trans (grown_belowX hb none))
        have C3 := Lib.hid (blkD Z3.out C2.out)
        have V3 := Lib.hid (blkD Z3.out V2.out)
        clear hb
        refine hK.out _ _ (Lib.hid trivial) (fun hHeld => ?_)
        clear hK K'
        simp only [Act.put, List.getElem_toArray, List.getElem_cons_succ, List.getElem_cons_zero, List.size_toArray, List.length_cons, List.length_nil, Nat.reduceAdd, Array.replicate, List.replicate, List.setIfInBounds_toArray, List.set_cons_zero, List.set_cons_succ]
        refine RD1 (i := 2) rfl (fun K' hK => ?_)
        obtain ⟨⟨b0, b1, b2, b3⟩, b4, b5, b6, b7⟩ := four_of (w := w3) C3.out
        go_simp
        clear b0 b1 b2 b3 b4 b5 b6 b7
        refine hK.out _ _ (Lib.hid trivial) (fun hHeld => ?_)
        clear hK K'
        simp only [Act.put, List.getElem_toArray, List.getElem_cons_succ, List.getElem_cons_zero, List.size_toArray, List.length_cons, List.length_nil, Nat.reduceAdd, Array.replicate, List.replicate, List.setIfInBounds_toArray, List.set_cons_zero, List.set_cons_succ]
        refine RD1 (i := 6) rfl (fun K' hK => ?_)
        go_simp
        go_at_call 50
        refine (HS.out _).mono ?_
        rintro e w4 ⟨rfl, hb⟩
        have Z4 : Hid (w2.grownBy w4 none) := Lib.hid (Z3.out.trans (grown_belowX hb none))
        clear hb
        have C4 := Lib.hid (blkD Z4.out C2.out)
        have R4 := Lib.hid (blkD Z4.out R2.out)
        refine hK.out _ _ (Lib.hid trivial) (fun hHeld => ?_)
        clear hK K'
        simp only [Act.put, List.getElem_toArray, List.getElem_cons_succ, List.getElem_cons_zero, List.size_toArray, List.length_cons, List.length_nil, Nat.reduceAdd, Array.replicate, List.replicate, List.setIfInBounds_toArray, List.set_cons_zero, List.set_cons_succ]
        refine TKB (i := 7) (v := ?vfz) rfl ?yfz ?rfz
        case yfz => (intro w hSw; (try dsimp only at hSw); go_simp; try with_reducible rfl)
        simp only [Act.put, List.getElem_toArray, List.getElem_cons_succ, List.getElem_cons_zero, List.size_toArray, List.length_cons, List.length_nil, Nat.reduceAdd, Array.replicate, List.replicate, List.setIfInBounds_toArray, List.set_cons_zero, List.set_cons_succ]
        refine RD1 (i := 8) rfl (fun K' hK => ?_)
        obtain ⟨⟨b0, b1, b2, b3⟩, b4, b5, b6, b7⟩ := four_of C4.out
        go_simp
        refine hK.out _ _ (Lib.hid trivial) (fun hHeld => ?_)
        clear hK K'
        simp only [Act.put, List.getElem_toArray, List.getElem_cons_succ, List.getElem_cons_zero, List.size_toArray, List.length_cons, List.length_nil, Nat.reduceAdd, Array.replicate, List.replicate, List.setIfInBounds_toArray, List.set_cons_zero, List.set_cons_succ]
        refine wpAnyH_done (by kernel_rfl) ?_ _
        clear hHeld b0 b1 b2 b3 b4 b5 b6 b7 HO HS C3 V3 V2
        have hC5 := heap_setCell_same _ _ 3 _ _ (.int .u64 lz) (heap_setCell_same _ _ 2 _ _ (.int .i64 hz) C4.out)
        have hR5 : ((w4.setCell ⟨g, 2, none⟩ (.int .i64 hz)).setCell ⟨g, 3, none⟩ (.int .u64 lz)).heap[g + 1 + 1]? = some (.cells #[.int .i64 0, .int .i64 0, .int .i64 0, .int .u64 0] 77 (0, 0)) := ((grown_setX (grown_cellR w4 g 2 (.int .i64 hz)) 3 (.int .u64 lz)).block (g + 1 + 1) (Array.getElem?_eq_some_iff.1 R4.out).1 (by simp; omega)).trans R4.out
        have hg5 := grown_setnewX (grown_setnewX (G2.out.trans Z4.out) (b := g) (by rw [HG.out]; exact Nat.le_refl _) 2 (.int .i64 hz)) (b := g) (by rw [HG.out]; exact Nat.le_refl _) 3 (.int .u64 lz)
        generalize (w4.setCell ⟨g, 2, none⟩ (.int .i64 hz)).setCell ⟨g, 3, none⟩ (.int .u64 lz) = w5 at *
        have hC6 : w5.heap[g]? = some (.cells #[.int .i64 (a + 1), .int .i64 s, .int .i64 hz, .int .u64 lz] 77 (0, 0)) := by simpa using hC5
        have R5 := Lib.hid hR5
        have C6 := Lib.hid hC6
        have G5 := Lib.hid hg5
        clear hC5 hR5 hg5 hC6 C4 R4 Z4 Z3 C2 R2 G2
        obtain ⟨⟨b0, b1, b2, b3⟩, b4, b5, b6, b7⟩ := four_of C6.out
        obtain ⟨⟨r0, r1, r2, r3⟩, r4, r5, r6, r7⟩ := four_of R5.out
        go_wp2_with fail
        have hX := heap_setCell_same _ _ 1 _ _ (.int .i64 (s + 1)) C6.out
        have hY : (w5.setCell ⟨g, 1, none⟩ (.int .i64 (s + 1))).heap[g + 1 + 1]? = some (.cells #[.int .i64 0, .int .i64 0, .int .i64 0, .int .u64 0] 77 (0, 0)) := ((grown_cellR w5 g 1 (.int .i64 (s + 1))).block (g + 1 + 1) (Array.getElem?_eq_some_iff.1 R5.out).1 (by simp; omega)).trans R5.out
        have hG := grown_setnewX G5.out (b := g) (by rw [HG.out]; exact Nat.le_refl _) 1 (.int .i64 (s + 1))
        exact bodyPost_ret (results_cell_row rfl _ _ (g + 1 + 1) 77 #[.int .i64 (a + 1), .int .i64 (s + 1), .int .i64 hz, .int .u64 lz] (0, 0) _ rfl (set4 hY) Tryz.underlying77 rfl (by kernel_rfl)) rfl ⟨rfl, grown_set4 hG (by rw [HG.out]; omega) _ _ _ _⟩
  · rw [if_neg h2]
    have e2 : (k == 2) = false := beq_eq_false_iff_ne.2 h2
    generalize Wd.hiB x = h at *
    generalize Wd.loB x = l at *
    clear hn
    by_cases h0 : k = 0
    · subst h0
      rw [if_pos rfl]
      clear h2 e2
      go_enter Tryz.func49, Tryz.ntmps49
      go_wp2_with fail
      exact bodyPost_ret (results_cell_row rfl _ _ (w.heap.size + 1 + 1) 77 #[.int .i64 (a + 1), .int .i64 s, .int .i64 h, .int .u64 l] (0, 0) _ rfl (Wd.heap3 w _ _ _) Tryz.underlying77 rfl (by kernel_rfl)) rfl ⟨rfl, ((World.grownBy_alloc w _ none).trans (World.grownBy_alloc _ _ none)).trans (World.grownBy_alloc _ _ none)⟩
    · rw [if_neg h0]
      have e0 : (k == 0) = false := beq_eq_false_iff_ne.2 h0
      clear h2 h0
      go_enter Tryz.func49, Tryz.ntmps49
      go_wp2_with fail
      exact bodyPost_ret (results_cell_row rfl _ _ (w.heap.size + 1 + 1) 77 #[.int .i64 (a + 1), .int .i64 (s + 1), .int .i64 h, .int .u64 l] (0, 0) _ rfl (Wd.heap3 w _ _ _) Tryz.underlying77 rfl (by kernel_rfl)) rfl ⟨rfl, ((World.grownBy_alloc w _ none).trans (World.grownBy_alloc _ _ none)).trans (World.grownBy_alloc _ _ none)⟩
set_option maxRecDepth 100000 in
theorem with1_any (a s : Int) (x : BitVec 128) (v : Vl) (w : World) (ha : 0 ≤ a ∧ a ≤ 1000000) (hs : 0 ≤ s ∧ s ≤ 1000000) (hn : v.k = 2 → -9223372036854775808 ≤ v.n ∧ v.n ≤ 9223372036854775807) :
    Calls Tryz.prog 28 #[cntV a s x, .agg #[.int .i64 v.k, .int .i64 v.n, .string v.s]] w fun e w' => e = .returned (cntV (a + 1) (cntS v s) (cntX v x)) ∧ w.grownBy w' none := by
  have HM := Lib.hid (fun W => moved_any a s x v W ha hs hn)
  unfold cntV at HM ⊢
  generalize cntS v s = s' at *
  generalize Wd.hiB (cntX v x) = hz at *
  generalize Wd.loB (cntX v x) = lz at *
  generalize Wd.hiB x = h at *
  generalize Wd.loB x = l at *
  obtain ⟨k, n, t⟩ := v
  dsimp only at HM ⊢
  clear ha hs hn
  go_enter Tryz.func28, Tryz.ntmps28
  go_wp2_with fail
  refine (HM.out _).mono ?_
  rintro e w3 ⟨rfl, hg⟩
  have R3 := Lib.hid (blkD hg (Wd.heap3 w _ _ (.cells #[.int .i64 0, .int .i64 0, .int .i64 0, .int .u64 0] 77)))
  have G3 := Lib.hid ((((World.grownBy_alloc w _ none).trans (World.grownBy_alloc _ _ none)).trans (World.grownBy_alloc _ _ none)).trans hg)
  obtain ⟨⟨r0, r1, r2, r3⟩, r4, r5, r6, r7⟩ := four_of R3.out
  clear hg
  go_wp2_with fail
  exact bodyPost_ret (results_cell_row rfl _ _ (w.heap.size + 1 + 1) 77 #[.int .i64 (a + 1), .int .i64 s', .int .i64 hz, .int .u64 lz] (0, 0) _ rfl (set4 R3.out) Tryz.underlying77 rfl (by kernel_rfl)) rfl ⟨rfl, grown_set4 G3.out (by omega) _ _ _ _⟩
end Go.Proofs.YtpklajadfbigcaaGreatDoor
namespace Go.Proofs.YtpklajadfbigcaaGreatDoor
open Go.RowKit
set_option linter.unusedVariables false
set_option linter.unusedSimpArgs false
theorem itm1_cells {W : World} {b : Nat} {M : ByteArray} {T : TypeId} (h : W.heap[b]? = some (.cells #[.int .i64 0, .string M, .int .i64 0] T (0, 0))) : CellsS (fun _ => True) W (some ⟨b, 0, none⟩) ([(⟨0, M, 0⟩ : Itm)].flatMap Itm.c) := by
  refine .inr ⟨b, 0, rfl, trivial, (Array.getElem?_eq_some_iff.1 h).1, fun j u hj => ?_⟩
  rw [Nat.zero_add, cell_of_row _ _ _ _ _ _ h]
  simpa [Itm.c] using hj
theorem win_none {sz : Nat} {w : World} {a : Option Addr} {cap n : Nat} {xs : List Value} (h : Win sz w a cap n xs) (e : a = none) : n = 0 := by
  rcases h.mem with h0 | ⟨g, off, e', _⟩
  · have := h.le; omega
  · rw [e] at e'; cases e'
def rowC (M : ByteArray) (cs : List Cl) (x : Rwm) : Vl := colV M cs x.l vlZ
def FineR (cs : List Cl) (x : Rwm) : Prop := (∀ v ∈ x.l, (vlV v).fine) ∧ x.l.length = cs.length
set_option maxRecDepth 100000 in
set_option maxHeartbeats 6400000 in
theorem values_any (TN : ByteArray) (ta : Option Addr) (tcap : Nat) (cs : List Cl) (TK : Int) (M : ByteArray) (la : Option Addr) (lcap : Nat) (ls : List Rwm) (w : World) (hC : ColsAt w.heap.size w ta cs) (hs : ∀ c ∈ cs, c.n.size ≤ maxLen) (hl : cs.length ≤ 100000) (hM : M.size ≤ maxLen)
    (hR : RwsAt w.heap.size w la ls) (hlc : ls.length ≤ lcap) (hn : ls.length ≤ 1000) (hf : ∀ x ∈ ls, FineR cs x) :
    Calls Tryz.prog 24 #[.agg #[.string TN, .slice ta cs.length tcap, .int .i64 TK], .string M, .slice la ls.length lcap] w fun e w' => (∃ a c, e = .returned (.slice a ls.length c) ∧ Win 3 w' a c ls.length ((ls.map (rowC M cs)).flatMap Vl.cc) ∧ (∀ k, bk a k → w.heap.size ≤ k)) ∧ w.grownBy w' none := by
  have HTk := Lib.hid (fun (x : Rwm) (b : Nat) W (hW : w.grownBy W none) (hx : x ∈ ls) (hb : W.heap[b]? = some (.cells #[.int .i64 0, .string M, .int .i64 0] 27 (0, 0))) => take_any TN ta tcap cs TK (some ⟨b, 0, none⟩) 1 [⟨0, M, 0⟩] x.a x.c x.l W ((hC.keep hW (by simp)).mono hW.size) hs hl (itm1_cells hb) (Nat.le_refl _) (by intro y hy; rw [List.mem_singleton.1 hy]; exact ⟨rfl, hM⟩) (by simp) (((hR.keep hW).2.1 x hx).1.mono1 hW.size) (hf x hx).1 (hf x hx).2)
  have HAt := Lib.hid (fun k (hk : k < ls.length) => hR.at hk)
  have HIn := Lib.hid (fun k (hk : k < ls.length) => (by rw [List.getD, List.getElem?_eq_getElem hk]; exact List.getElem_mem _ : ls.getD k default ∈ ls))
  obtain ⟨fl, hfl⟩ : ∃ fl : Nat → List Value, fl = fun k => (ls.take k).flatMap (fun x => Vl.cc (rowC M cs x)) := ⟨_, rfl⟩
  have HF0 : Hid (fl 0 = []) := Lib.hid (by rw [hfl]; rfl)
  have HF : Hid (∀ k, k < ls.length → fl (k + 1) = fl k ++ Vl.cc (rowC M cs (ls.getD k default))) := Lib.hid (fun k hk => by rw [hfl]; exact flatM_take (fun x => Vl.cc (rowC M cs x)) ls k hk)
  have HT : Hid (fl ls.length = (ls.map (rowC M cs)).flatMap Vl.cc) := Lib.hid (by rw [hfl, List.flatMap_map]; show (ls.take ls.length).flatMap _ = _; rw [List.take_length])
  rw [← HT.out]
  clear hfl HT hC hs hl hM hR hf
  generalize ls.length = m at *
  obtain ⟨cn, hcn⟩ : ∃ cn, cn = cs.length := ⟨_, rfl⟩
  rw [← hcn] at HTk ⊢
  clear hcn
  have T1 := Lib.hid (heap_alloc_new w (.cells #[.string TN, .slice ta cn tcap, .int .i64 TK] 24))
  have G1 := Lib.hid (World.grownBy_alloc w (.cells #[.string TN, .slice ta cn tcap, .int .i64 TK] 24) none)
  go_enter Tryz.func24, Tryz.ntmps24
  go_upto_region 1 with fail
  generalize w.alloc (.cells #[.string TN, .slice ta cn tcap, .int .i64 TK] 24) = w1 at *
  go_upto_region 3 with fail
  change Code.wp _ _ _ _ (w1.alloc (.cells #[.int .i64 0, .string M, .int .i64 0] 27))
  have I2 := Lib.hid (heap_alloc_new w1 (.cells #[.int .i64 0, .string M, .int .i64 0] 27))
  have G12 := World.grownBy_alloc w1 (.cells #[.int .i64 0, .string M, .int .i64 0] 27) none
  generalize w1.alloc (.cells #[.int .i64 0, .string M, .int .i64 0] 27) = w2 at *
  have T2 := Lib.hid (blkD G12 T1.out)
  have G2 := Lib.hid (G1.out.trans G12)
  obtain ⟨gi, hgi⟩ : ∃ g, g = w1.heap.size := ⟨_, rfl⟩
  rw [← hgi] at I2 ⊢
  clear hgi G12 G1 T1
  go_wp2_with fail
  go_loopw [8, 16] (fun s8 s16 wr => ∃ (k c : Nat) (a' : Option Addr), s8 = .slice a' k c ∧ s16 = .int .i64 k ∧ k ≤ m ∧ Hid (Win 3 wr a' c k (fl k)) ∧ Hid (∀ j, bk a' j → w2.heap.size ≤ j) ∧ Hid (w2.grownBy wr none)) (fun _ s16 _ => m - (intOf s16).toNat)
  case atStart => exact ⟨0, 0, none, rfl, rfl, Nat.zero_le _, Lib.hid (by rw [HF0.out]; exact Win.nil 3 _), Lib.hid (fun j hj => by simp [bk] at hj), Lib.hid (grown_reflT _ _)⟩
  case round =>
    obtain ⟨k, c, a', rfl, rfl, hk, KW, KB, KG⟩ := hrel
    have GR := Lib.hid (G2.out.trans KG.out)
    by_cases hlt : k < m
    · obtain ⟨b, off, rfl, hb, d0⟩ := HAt.out k hlt
      have c0 := GR.out.cell d0 (by simp)
      have HFk := Lib.hid (HF.out k hlt)
      have HTr := Lib.hid (HTk.out (ls.getD k default) gi wr GR.out (HIn.out k hlt) (blkD KG.out I2.out))
      have T3 := Lib.hid (blkD KG.out T2.out)
      generalize ls.getD k default = x at *
      have HX : Hid (([(⟨0, M, 0⟩ : Itm)].flatMap fun y => Vl.cc (colV y.col cs x.l vlZ)) = Vl.cc (rowC M cs x)) := Lib.hid (by simp [rowC])
      generalize rowC M cs x = v at *
      rw [HX.out] at HTr
      clear HX
      obtain ⟨xa, xc, xl⟩ := x
      dsimp only at c0 HTr
      generalize xl.length = xn at *
      have i0 : (0 : Int) ≤ k := by omega
      have i1 : (k : Int) < m := by omega
      have i2 : (k : Int) < lcap := by omega
      clear hb d0
      obtain ⟨⟨t0, t1, t2⟩, t3, t4, t5⟩ := three_of T3.out
      go_wp2_with fail
      refine HTr.out.mono ?_
      rintro e w4 ⟨⟨a4, c4, rfl, hW4, hB4⟩, hg⟩
      have G4 := Lib.hid (KG.out.trans hg)
      have W4 := Lib.hid (KW.out.keepG hg)
      have V4 : Hid (Win 3 w4 a4 c4 1 (Vl.cc v)) := Lib.hid hW4
      clear hg hW4 hB4 KW t0 t1 t2 t3 t4 t5
      go_wp2_with (first
        | (refine wpList_append_winB (by rfl) _ _ val_el Tryz.underlying54 rfl W4.out (by rfl) a4 1 c4 (by rfl) (Vl.cc v) (win_none V4.out) (by rfl) (by omega) (CellsS.atAnyS (win_cells (S := fun _ => True) V4.out (fun _ _ => trivial))) (vlcc_ones _) ?_; intro a6 c6 w6 hW6 hO6 hB6 _)
        | fail)
      have G6 := Lib.hid (grown_onlyN G4.out hO6 KB.out)
      have W6 : Hid (Win 3 w6 a6 c6 (k + 1) (fl (k + 1))) := Lib.hid (by rw [HFk.out]; exact hW6)
      have B6 : Hid (∀ j, bk a6 j → w2.heap.size ≤ j) := Lib.hid (fun j hj => (hB6 j hj).elim (KB.out j) (fun h => Nat.le_trans G4.out.size h))
      exact ⟨⟨k + 1, c6, a6, rfl, rfl, by omega, W6, B6, G6⟩, by simp [intOf]; omega⟩
    · obtain rfl : k = m := by omega
      clear HF HF0 HAt HIn HTk
      go_wp2_with fail
      go_ret
      exact ⟨⟨a', c, rfl, KW.out, fun j hj => Nat.le_trans G2.out.size (KB.out j hj)⟩, GR.out⟩
end Go.Proofs.YtpklajadfbigcaaGreatDoor
namespace Go.Proofs.YtpklajadfbigcaaGreatDoor
open Go.RowKit Go.Extern.Stop Go.Stop Go.Extern
namespace TaX
theorem noIsTa (v : Value) (xT : TypeId) (w : World) : (Instr.typeAssert (.iface 136 v) xT 140 true).run Tryz.prog w = .ok (.tuple #[.nilIface, .bool false]) w := run_typeAssert_lacksB Tryz.underlying140 (by kernel_rfl) (by kernel_rfl) v xT w
theorem hasUnwrapTa (v : Value) (xT : TypeId) (w : World) : (Instr.typeAssert (.iface 136 v) xT 143 true).run Tryz.prog w = .ok (.tuple #[.iface 136 v, .bool true]) w := run_typeAssert_hasB Tryz.underlying143 (by kernel_rfl) v xT w
theorem methodUnwrapTa (v : Value) (w : World) : (Go.method 317 136 v "Unwrap").run Tryz.prog w = .ok (132, v) w := by kernel_rfl
set_option maxRecDepth 100000 in
set_option maxHeartbeats 8000000 in
theorem is_exc_same (x : ByteArray) (b : Addr) (w : World) :
    Calls Tryz.prog 52 #[.iface 136 (.agg #[.string x, .iface 184 (.pointer (some b))]), .iface 184 (.pointer (some b))] w fun e w' => e = .returned (.bool true) ∧ w.grownBy w' none := by
  obtain ⟨i, hi, hcmp⟩ := Option.map_eq_some_iff.1 isCompL
  obtain ⟨j, hj, hjs⟩ := Option.map_eq_some_iff.1 isSizeL
  have h8 := @run_callFunc_extern Tryz.prog 70 _ Extern.ReflectliteType.typeOf Tryz.func70 (by kernel_rfl) (by kernel_rfl) (by kernel_rfl) (by kernel_rfl)
  have h32 := @run_callFunc_extern Tryz.prog 136 _ (Extern.ReflectliteType.method fun t => do Go.Extern.Rtype.noPackHeld "Comparable" t; pure (.bool (← typeInfo t).comparable)) Tryz.func136 (by kernel_rfl) (by kernel_rfl) (by kernel_rfl) (by kernel_rfl)
  have tT := isTypeOfL
  have cT := isComparableL
  have mR := isMethodComparableL
  have nE := noIsE
  have uE := noUnwrapE
  have vE := noUnwrapsE
  have nW := noIsTa
  have uW := hasUnwrapTa
  have mU := methodUnwrapTa
  have heq := fun w => run_eql_iface_ptr_same (P := Tryz.prog) w b Tryz.underlying98 Tryz.underlying184 hi hcmp hj
  have hty := fun w => run_eql_iface_types (P := Tryz.prog) 136 184 (.agg #[.string x, .iface 184 (.pointer (some b))]) (.pointer (some b)) Tryz.underlying98 (by decide) w
  go_enter Tryz.func52, Tryz.ntmps52
  go_wp2
  refine wp_loop_rounds 2 ?_
  rw [rounds_succ]
  go_wp2
  rw [rounds_succ]
  go_wp2
  go_ret
  exact ⟨rfl, by first | exact World.grownBy_alloc _ _ _ | exact (World.grownBy_alloc _ _ _).trans (World.grownBy_alloc _ _ _)⟩
set_option maxRecDepth 100000 in
set_option maxHeartbeats 8000000 in
theorem is_nil (b : Addr) (w : World) :
    Calls Tryz.prog 52 #[.nilIface, .iface 184 (.pointer (some b))] w fun e w' => e = .returned (.bool false) ∧ w.grownBy w' none := by
  have heq : ∀ w, (binOp .eql 98 .nilIface (.iface 184 (.pointer (some b)))).run Tryz.prog w = .ok (.bool false) w := fun _ => by kernel_rfl
  go_enter Tryz.func52, Tryz.ntmps52
  go_wp2
  go_ret
  exact ⟨rfl, grown_reflT _ _⟩
end TaX
structure TaEnv (G : Nat) (a : Addr) (w : World) : Prop where
  tab : Wd.TabW w
  sen : SenAt G 0 a [110, 111, 116, 32, 97, 32, 115, 117, 109, 32, 111, 102, 32, 54, 52, 32, 98, 105, 116, 115] w
theorem TaEnv.keep {G : Nat} {a : Addr} {w w' : World} (h : TaEnv G a w) (hg : w.grownBy w' none) : TaEnv G a w' :=
  ⟨h.tab.keep ⟨hg.os, hg.tape, hg.output, hg.size, fun k hk => hg.block k hk (by simp)⟩, h.sen.keep hg⟩
def sumV (s : Int) (x : BitVec 128) : Vl := if Wd.fitB x then (if s = 0 then vlZ else ⟨2, x.toInt, ⟨#[]⟩⟩) else vlZ
end Go.Proofs.YtpklajadfbigcaaGreatDoor
