/- Commits on the document's example: what each of the laws' commits makes. The laws' Few, Fits and Make; the document's New. The laws' fixed fact. -/
import Derived.Test.YtaggacffjbjchaaGreatDoorZa35
import Derived.Test.YtaggacffjbjchaaGreatDoorZa12
import Derived.Test.YtaggacffjbjchaaGreatDoorZa14
import Derived.Deep.OwnRows
import Derived.Test.YtaggacffjbjchaaGreatDoorZa36
namespace Go.Proofs.YtaggacffjbjchaaGreatDoor
open Go.RowKit

section
variable {ts : List Tb} {tr : Nat → Tre} {k : Nat} {f : Int → Option (List Vl)}
theorem nil_ne_rX (n : Int) (s : ByteArray) : (([] : List Vl)) ≠ rX n s := by simp [rX]
theorem ExT.one_new (hx : ExT ts) (h : Xs tr k f) (n : Int) (s : ByteArray) (a : Ptr) (c : Nat) (hs : s.size ≤ 60) (hf : f n = none) (hk : k < 200) :
    ∃ ms, commitM ts tr [⟨1, ⟨#[116]⟩, ⟨a, c, rX n s⟩⟩] = .ok ms ∧ Xs ms.tr (k + 1) (updX f n (some (rX n s))) := by
  have hd := h.doPut hx [] [] n s a c hs rfl (by rw [hf]; exact nil_ne_rX n s)
  have hX := h.put_new n s hf
  exact ⟨_, commit_one hd (by rw [hX.full]; omega), hX⟩
theorem ExT.one_over (hx : ExT ts) (h : Xs tr k f) (n : Int) (s : ByteArray) (a : Ptr) (c : Nat) (hs : s.size ≤ 60) (hf : f n = none) (hk : 200 ≤ k) :
    commitM ts tr [⟨1, ⟨#[116]⟩, ⟨a, c, rX n s⟩⟩] = .error 3 := by
  have hd := h.doPut hx [] [] n s a c hs rfl (by rw [hf]; exact nil_ne_rX n s)
  have hX := h.put_new n s hf
  exact commit_one_full hd (by rw [hX.full]; omega)
theorem ExT.one_old (hx : ExT ts) (h : Xs tr k f) (n : Int) (s : ByteArray) (a : Ptr) (c : Nat) {r : List Vl} (hs : s.size ≤ 60) (hf : f n = some r) (hr : r ≠ rX n s) (hk : k ≤ 200) :
    ∃ ms, commitM ts tr [⟨1, ⟨#[116]⟩, ⟨a, c, rX n s⟩⟩] = .ok ms ∧ Xs ms.tr k (updX f n (some (rX n s))) := by
  have hd := h.doPut hx [] [] n s a c hs rfl (by rw [hf]; exact hr)
  have hX := h.put_old n s hf
  exact ⟨_, commit_one hd (by rw [hX.full]; omega), hX⟩
theorem ExT.same (hx : ExT ts) (h : Xs tr k f) (n : Int) (s : ByteArray) (a : Ptr) (c : Nat) (hs : s.size ≤ 60) (hf : f n = some (rX n s)) (hk : k ≤ 200) :
    ∃ ms, commitM ts tr [⟨1, ⟨#[116]⟩, ⟨a, c, rX n s⟩⟩] = .ok ms ∧ ms.ch.length = 0 ∧ Xs ms.tr k f := by
  have hd := h.doSame hx [] [] n s a c hs rfl hf
  exact ⟨_, commit_one hd (by rw [h.full]; omega), rfl, h⟩
theorem ExT.none (hx : ExT ts) (h : Xs tr k f) (n : Int) (a : Ptr) (c : Nat) (hf : f n = .none) : commitM ts tr [⟨2, ⟨#[116]⟩, ⟨a, c, [viV n]⟩⟩] = .error 22 :=
  commit_one_err (h.doNone hx [] [] n a c rfl hf)
theorem ExT.two (hx : ExT ts) (h : Xs tr k f) (n m : Int) (s s' : ByteArray) (a a' : Ptr) (c c' : Nat) (hs : s.size ≤ 60) (hs' : s'.size ≤ 60) (hf : f n = .none) (hf' : f m = .none) (hne : n ≠ m) (hk : k + 2 ≤ 200) :
    ∃ ms, commitM ts tr [⟨1, ⟨#[116]⟩, ⟨a, c, rX n s⟩⟩, ⟨1, ⟨#[116]⟩, ⟨a', c', rX m s'⟩⟩] = .ok ms ∧ ms.ch.length = 2 ∧ Xs ms.tr (k + 1 + 1) (updX (updX f n (some (rX n s))) m (some (rX m s'))) := by
  have hd := h.doPut hx [] [] n s a c hs rfl (by rw [hf]; exact nil_ne_rX n s)
  have hX := h.put_new n s hf
  have hf2 : updX f n (some (rX n s)) m = .none := by unfold updX; rw [if_neg (fun e => hne e.symm)]; exact hf'
  have hd2 := hX.doPut hx ([] ++ [((ts.getD 0 default).n, (f n).getD [], rX n s)]) ([] ++ [(((0 : Nat) : Int), [viV n])]) m s' a' c' hs' (hit_ne hne) (by rw [hf2]; exact nil_ne_rX m s')
  have hX2 := hX.put_new m s' hf2
  exact ⟨_, commit_two hd hd2 (by rw [hX2.full]; omega), rfl, hX2⟩
theorem ExT.swap (hx : ExT ts) (h : Xs tr (k + 1) f) (n m : Int) (s : ByteArray) (a a' : Ptr) (c c' : Nat) {r : List Vl} (hs : s.size ≤ 60) (hf : f n = some r) (hf' : f m = .none) (hne : n ≠ m) (hk : k + 1 ≤ 200) :
    ∃ ms, commitM ts tr [⟨2, ⟨#[116]⟩, ⟨a, c, [viV n]⟩⟩, ⟨1, ⟨#[116]⟩, ⟨a', c', rX m s⟩⟩] = .ok ms ∧ Xs ms.tr (k + 1) (updX (updX f n .none) m (some (rX m s))) := by
  have hd := h.doDel hx [] [] n a c rfl hf
  have hX := h.del n hf
  have hf2 : updX f n .none m = .none := by unfold updX; rw [if_neg (fun e => hne e.symm)]; exact hf'
  have hd2 := hX.doPut hx ([] ++ [((ts.getD 0 default).n, r, [])]) ([] ++ [(((0 : Nat) : Int), [viV n])]) m s a' c' hs (hit_ne hne) (by rw [hf2]; exact nil_ne_rX m s)
  have hX2 := hX.put_new m s hf2
  exact ⟨_, commit_two hd hd2 (by rw [hX2.full]; omega), hX2⟩
end
/-- The example's store in memory, counted. -/
structure XS (w0 : World) (G b : Nat) (w : World) (s : Stm) (k : Nat) (f : Int → Option (List Vl)) : Prop where
  at_ : SAt w0.heap.size w s
  err : ErrT G w
  hb : s.b = b
  ex : ExT s.ts
  xs : Xs s.top.tr k f
  gb : G ≤ w0.heap.size
  gr : w0.grownBy w none
section
variable {w0 w w2 : World} {G b k : Nat} {s : Stm} {f : Int → Option (List Vl)}
theorem XS.keepG (h : XS w0 G b w s k f) (hg : w.grownBy w2 none) : XS w0 G b w2 s k f := ⟨h.at_.keepG hg, h.err.grown hg, h.hb, h.ex, h.xs, h.gb, h.gr.trans hg⟩
theorem XS.commit (h : XS w0 G b w s k f) {k' : Nat} {f' : Int → Option (List Vl)} {ms : Ms} (oa : Ptr) (oc : Nat) (l : List Om) (ho : OpS (fun j => ¬ s.M j) w oa l) (hoc : l.length ≤ oc) (hv : s.v < 100000) (hm : commitM s.ts s.top.tr l = .ok ms) (hX : Xs ms.tr k' f') :
    Calls Tryz.prog 18 #[.pointer (some ⟨b, 0, none⟩), .slice oa l.length oc] w fun e w' => ∃ s' a cap, e = .returned (.tuple #[.agg #[.int .i64 (s.v + 1), .slice a ms.ch.length cap], .int .i64 0]) ∧ XS w0 G b w' s' k' f' ∧ s'.v = s.v + 1 ∧ Only s.M w w' := by
  have hc := commitX_ok w0.heap.size G s oa oc l ms w h.at_ h.err ho hoc hv h.gr.size hm
  rw [h.hb] at hc
  refine hc.mono ?_
  rintro e w' ⟨s', a, cap, rfl, ht⟩
  have hg : w0.grownBy w' none := only_grown h.gr ht.only h.at_.low
  exact ⟨s', a, cap, rfl, ⟨ht.at_, h.err.only ht.only (fun j hj => Nat.le_trans h.gb (h.at_.low j hj)), ht.b.trans h.hb, by rw [ht.ts]; exact h.ex, by rw [ht.tr]; exact hX, h.gb, hg⟩, ht.v, ht.only⟩
theorem XS.commitE (h : XS w0 G b w s k f) (oa : Ptr) (oc : Nat) (l : List Om) (c : Int) (ho : OpS (fun j => ¬ s.M j) w oa l) (hoc : l.length ≤ oc) (hv : s.v < 100000) (hm : commitM s.ts s.top.tr l = .error c) :
    Calls Tryz.prog 18 #[.pointer (some ⟨b, 0, none⟩), .slice oa l.length oc] w fun e w' => e = .returned (.tuple #[.agg #[.int .i64 0, .slice none 0 0], .int .i64 c]) ∧ w.grownBy w' none := by
  have hc := commitX_err w0.heap.size G s oa oc l c w h.at_ h.err ho hoc hv h.gr.size hm
  rw [h.hb] at hc
  exact hc
theorem XS.fresh (h : XS w0 G b w s k f) {a : Ptr} {l : List Vl} (hr : RwS (fun j => w.heap.size ≤ j) w2 a l) : RwS (fun j => ¬ s.M j) w2 a l := hr.mono (fun j _ hj e => by have := h.at_.lt j e; omega)
theorem XS.new (h : XS w0 G b w s k f) (hg : w.grownBy w2 none) : ¬ s.M w2.heap.size := fun e => by have := h.at_.lt _ e; have := hg.size; omega
variable {w3 : World}
theorem XS.putNew (h : XS w0 G b w s k f) (hg : w.grownBy w2 none) (a : Ptr) (n : Int) (sx : ByteArray) (hr : RwS (fun j => w.heap.size ≤ j) w2 a (rX n sx)) (hs : sx.size ≤ 60) (hf : f n = .none) (hk : k < 200) (hv : s.v < 100000) :
    Calls Tryz.prog 18 #[.pointer (some ⟨b, 0, none⟩), .slice (some ⟨w2.heap.size, 0, none⟩) 1 1] (w2.alloc (.cells #[.int .i64 1, .string ⟨#[116]⟩, .slice a 2 2] 82)) fun e w' => ∃ s' v a n' cap, e = .returned (.tuple #[.agg #[.int .i64 v, .slice a n' cap], .int .i64 0]) ∧ XS w0 G b w' s' (k + 1) (updX f n (some (rX n sx))) ∧ s'.v = s.v + 1 := by
  obtain ⟨ms, hm, hX⟩ := h.ex.one_new h.xs n sx a 2 hs hf hk
  refine ((h.keepG (hg.trans (World.grownBy_alloc w2 _ none))).commit (some ⟨w2.heap.size, 0, none⟩) 1 _ (op_one 82 1 ⟨#[116]⟩ a 2 (rX n sx) (h.fresh hr) (Nat.le_refl 2) (h.new hg)) (Nat.le_refl 1) hv hm hX).mono ?_
  rintro e w' ⟨s', a', cap, rfl, h1, h2, _⟩
  exact ⟨s', _, a', _, cap, rfl, h1, h2⟩
theorem XS.putOver (h : XS w0 G b w s k f) (hg : w.grownBy w2 none) (a : Ptr) (n : Int) (sx : ByteArray) (hr : RwS (fun j => w.heap.size ≤ j) w2 a (rX n sx)) (hs : sx.size ≤ 60) (hf : f n = .none) (hk : 200 ≤ k) (hv : s.v < 100000) :
    Calls Tryz.prog 18 #[.pointer (some ⟨b, 0, none⟩), .slice (some ⟨w2.heap.size, 0, none⟩) 1 1] (w2.alloc (.cells #[.int .i64 1, .string ⟨#[116]⟩, .slice a 2 2] 82)) fun e w' => e = .returned (.tuple #[.agg #[.int .i64 0, .slice none 0 0], .int .i64 3]) ∧ XS w0 G b w' s k f := by
  have hm := h.ex.one_over h.xs n sx a 2 hs hf hk
  have hx := h.keepG (hg.trans (World.grownBy_alloc w2 (.cells #[.int .i64 1, .string ⟨#[116]⟩, .slice a 2 2] 82) none))
  refine (hx.commitE (some ⟨w2.heap.size, 0, none⟩) 1 _ 3 (op_one 82 1 ⟨#[116]⟩ a 2 (rX n sx) (h.fresh hr) (Nat.le_refl 2) (h.new hg)) (Nat.le_refl 1) hv hm).mono ?_
  rintro e w' ⟨rfl, h1⟩
  exact ⟨rfl, hx.keepG h1⟩
theorem XS.putOld (h : XS w0 G b w s k f) (hg : w.grownBy w2 none) (a : Ptr) (n : Int) (sx : ByteArray) {r : List Vl} (hr : RwS (fun j => w.heap.size ≤ j) w2 a (rX n sx)) (hs : sx.size ≤ 60) (hf : f n = some r) (hne : r ≠ rX n sx) (hk : k ≤ 200) (hv : s.v < 100000) :
    Calls Tryz.prog 18 #[.pointer (some ⟨b, 0, none⟩), .slice (some ⟨w2.heap.size, 0, none⟩) 1 1] (w2.alloc (.cells #[.int .i64 1, .string ⟨#[116]⟩, .slice a 2 2] 82)) fun e w' => ∃ s' v a n' cap, e = .returned (.tuple #[.agg #[.int .i64 v, .slice a n' cap], .int .i64 0]) ∧ XS w0 G b w' s' k (updX f n (some (rX n sx))) ∧ s'.v = s.v + 1 := by
  obtain ⟨ms, hm, hX⟩ := h.ex.one_old h.xs n sx a 2 hs hf hne hk
  refine ((h.keepG (hg.trans (World.grownBy_alloc w2 _ none))).commit (some ⟨w2.heap.size, 0, none⟩) 1 _ (op_one 82 1 ⟨#[116]⟩ a 2 (rX n sx) (h.fresh hr) (Nat.le_refl 2) (h.new hg)) (Nat.le_refl 1) hv hm hX).mono ?_
  rintro e w' ⟨s', a', cap, rfl, h1, h2, _⟩
  exact ⟨s', _, a', _, cap, rfl, h1, h2⟩
theorem XS.putSame (h : XS w0 G b w s k f) (hg : w.grownBy w2 none) (a : Ptr) (n : Int) (sx : ByteArray) (hr : RwS (fun j => w.heap.size ≤ j) w2 a (rX n sx)) (hs : sx.size ≤ 60) (hf : f n = some (rX n sx)) (hk : k ≤ 200) (hv : s.v < 100000) :
    Calls Tryz.prog 18 #[.pointer (some ⟨b, 0, none⟩), .slice (some ⟨w2.heap.size, 0, none⟩) 1 1] (w2.alloc (.cells #[.int .i64 1, .string ⟨#[116]⟩, .slice a 2 2] 82)) fun e w' => ∃ s' a cap, e = .returned (.tuple #[.agg #[.int .i64 (s.v + 1), .slice a 0 cap], .int .i64 0]) ∧ XS w0 G b w' s' k f ∧ s'.v = s.v + 1 ∧ (∀ j, j < w.heap.size → ¬ s.M j → w'.heap[j]? = w.heap[j]?) := by
  obtain ⟨ms, hm, hl, hX⟩ := h.ex.same h.xs n sx a 2 hs hf hk
  refine ((h.keepG (hg.trans (World.grownBy_alloc w2 _ none))).commit (some ⟨w2.heap.size, 0, none⟩) 1 _ (op_one 82 1 ⟨#[116]⟩ a 2 (rX n sx) (h.fresh hr) (Nat.le_refl 2) (h.new hg)) (Nat.le_refl 1) hv hm hX).mono ?_
  rintro e w' ⟨s', a', cap, rfl, h1, h2, h3⟩
  have hgg := hg.trans (World.grownBy_alloc w2 (.cells #[.int .i64 1, .string ⟨#[116]⟩, .slice a 2 2] 82) none)
  exact ⟨s', a', cap, by rw [hl], h1, h2, fun j hj hM => (h3.block j (Nat.lt_of_lt_of_le hj hgg.size) hM).trans (hgg.block j hj (by simp))⟩
theorem XS.delNone (h : XS w0 G b w s k f) (hg : w.grownBy w2 none) (a : Ptr) (n : Int) (hr : RwS (fun j => w.heap.size ≤ j) w2 a [viV n]) (hf : f n = .none) (hv : s.v < 100000) :
    Calls Tryz.prog 18 #[.pointer (some ⟨b, 0, none⟩), .slice (some ⟨w2.heap.size, 0, none⟩) 1 1] (w2.alloc (.cells #[.int .i64 2, .string ⟨#[116]⟩, .slice a 1 1] 82)) fun e w' => e = .returned (.tuple #[.agg #[.int .i64 0, .slice none 0 0], .int .i64 22]) ∧ XS w0 G b w' s k f ∧ w.grownBy w' none := by
  have hm := h.ex.none h.xs n a 1 hf
  have hx := h.keepG (hg.trans (World.grownBy_alloc w2 (.cells #[.int .i64 2, .string ⟨#[116]⟩, .slice a 1 1] 82) none))
  refine (hx.commitE (some ⟨w2.heap.size, 0, none⟩) 1 _ 22 (op_one 82 2 ⟨#[116]⟩ a 1 [viV n] (h.fresh hr) (Nat.le_refl 1) (h.new hg)) (Nat.le_refl 1) hv hm).mono ?_
  rintro e w' ⟨rfl, h1⟩
  exact ⟨rfl, hx.keepG h1, (hg.trans (World.grownBy_alloc w2 _ none)).trans h1⟩
theorem XS.putTwo (h : XS w0 G b w s k f) (hg : w.grownBy w2 none) (hg3 : w2.grownBy w3 none) (a a' : Ptr) (n m : Int) (sx sy : ByteArray) (hr : RwS (fun j => w.heap.size ≤ j) w2 a (rX n sx)) (hr' : RwS (fun j => w2.heap.size ≤ j) w3 a' (rX m sy)) (hs : sx.size ≤ 60) (hs' : sy.size ≤ 60) (hf : f n = .none) (hf' : f m = .none) (hne : n ≠ m) (hk : k + 2 ≤ 200) (hv : s.v < 100000) :
    Calls Tryz.prog 18 #[.pointer (some ⟨b, 0, none⟩), .slice (some ⟨w3.heap.size, 0, none⟩) 2 2] (w3.alloc (.cells #[.int .i64 1, .string ⟨#[116]⟩, .slice a 2 2, .int .i64 1, .string ⟨#[116]⟩, .slice a' 2 2] 82)) fun e w' => ∃ s' a cap, e = .returned (.tuple #[.agg #[.int .i64 (s.v + 1), .slice a 2 cap], .int .i64 0]) ∧ XS w0 G b w' s' (k + 1 + 1) (updX (updX f n (some (rX n sx))) m (some (rX m sy))) ∧ s'.v = s.v + 1 := by
  obtain ⟨ms, hm, hl, hX⟩ := h.ex.two h.xs n m sx sy a a' 2 2 hs hs' hf hf' hne hk
  refine ((h.keepG ((hg.trans hg3).trans (World.grownBy_alloc w3 _ none))).commit (some ⟨w3.heap.size, 0, none⟩) 2 _ (op_two 82 1 1 ⟨#[116]⟩ ⟨#[116]⟩ a a' 2 2 (rX n sx) (rX m sy) ((h.fresh hr).keep (.of hg3)) (Nat.le_refl 2) ((h.keepG hg).fresh hr') (Nat.le_refl 2) (h.new (hg.trans hg3))) (Nat.le_refl 2) hv hm hX).mono ?_
  rintro e w' ⟨s', a', cap, rfl, h1, h2, _⟩
  exact ⟨s', a', cap, by rw [hl], h1, h2⟩
theorem XS.swap (h : XS w0 G b w s (k + 1) f) (hg : w.grownBy w2 none) (hg3 : w2.grownBy w3 none) (a a' : Ptr) (n m : Int) (sy : ByteArray) {r : List Vl} (hr : RwS (fun j => w.heap.size ≤ j) w2 a [viV n]) (hr' : RwS (fun j => w2.heap.size ≤ j) w3 a' (rX m sy)) (hs' : sy.size ≤ 60) (hf : f n = some r) (hf' : f m = .none) (hne : n ≠ m) (hk : k + 1 ≤ 200) (hv : s.v < 100000) :
    Calls Tryz.prog 18 #[.pointer (some ⟨b, 0, none⟩), .slice (some ⟨w3.heap.size, 0, none⟩) 2 2] (w3.alloc (.cells #[.int .i64 2, .string ⟨#[116]⟩, .slice a 1 1, .int .i64 1, .string ⟨#[116]⟩, .slice a' 2 2] 82)) fun e w' => ∃ s' v a n' cap, e = .returned (.tuple #[.agg #[.int .i64 v, .slice a n' cap], .int .i64 0]) ∧ XS w0 G b w' s' (k + 1) (updX (updX f n .none) m (some (rX m sy))) ∧ s'.v = s.v + 1 := by
  obtain ⟨ms, hm, hX⟩ := h.ex.swap h.xs n m sy a a' 1 2 hs' hf hf' hne hk
  refine ((h.keepG ((hg.trans hg3).trans (World.grownBy_alloc w3 _ none))).commit (some ⟨w3.heap.size, 0, none⟩) 2 _ (op_two 82 2 1 ⟨#[116]⟩ ⟨#[116]⟩ a a' 1 2 [viV n] (rX m sy) ((h.fresh hr).keep (.of hg3)) (Nat.le_refl 1) ((h.keepG hg).fresh hr') (Nat.le_refl 2) (h.new (hg.trans hg3))) (Nat.le_refl 2) hv hm hX).mono ?_
  rintro e w' ⟨s', a', cap, rfl, h1, h2, _⟩
  exact ⟨s', _, a', _, cap, rfl, h1, h2⟩
/-- How many rows a snapshot of the example tells. -/
theorem XS.len (h : XS w0 G b w s k f) {S : Nat → Prop} {p : Nat} (hs : Snp S w2 p s.ca s.cc s.ts s.top) : Calls Tryz.prog 31 #[.pointer (some ⟨p, 0, none⟩), .string ⟨#[116]⟩] w2 fun e w' => e = .returned (.int .i64 k) ∧ w2.grownBy w' none := by
  refine (lenP_any S p s.ca s.cc s.ts s.top ⟨#[116]⟩ w2 hs h.at_.ok.six).mono ?_
  rintro e w' ⟨hr, hg⟩
  refine ⟨?_, hg⟩
  rcases hr with ⟨_, ht⟩ | ⟨j, _, rfl, ht⟩
  · rcases ht.tabI with ⟨_, ht⟩ | ⟨_, e, _⟩
    · rw [h.ex.tab] at ht; cases ht
    · omega
  · rcases ht.tabI with ⟨e, _⟩ | ⟨i, e, _, ht⟩
    · omega
    · rw [h.ex.tab] at ht
      cases ht
      obtain rfl : j = 0 := by omega
      rw [h.xs.n]
theorem XS.getNone (h : XS w0 G b w s k f) {S : Nat → Prop} {p : Nat} (hs : Snp S w2 p s.ca s.cc s.ts s.top) (a : Ptr) (n : Int) (hr : RowAt w2 a [viV n]) (hf : f n = .none) : Calls Tryz.prog 33 #[.pointer (some ⟨p, 0, none⟩), .string ⟨#[116]⟩, .slice a 1 1] w2 fun e w' => e = .returned (.tuple #[.slice none 0 0, .bool false]) ∧ w2.grownBy w' none := by
  refine (getP_any S p s.ca a s.cc 1 200 s.ts s.top ⟨#[116]⟩ [viV n] w2 hs h.at_.ok.six (h.at_.trs _ h.at_.topMem) (by decide) hr (by simp)).mono ?_
  rintro e w' ⟨hr, hg⟩
  refine ⟨?_, hg⟩
  rcases hr with ⟨rfl, ht⟩ | ⟨j, _, ht, hr⟩
  · rfl
  · rcases ht.tabI with ⟨e, _⟩ | ⟨i, e, _, ht⟩
    · omega
    · rw [h.ex.tab] at ht
      cases ht
      obtain rfl : j = 0 := by omega
      rcases hr with ⟨a', c, r, _, _, hl⟩ | ⟨rfl, _⟩
      · have := h.xs.lk n
        rw [hl, hf] at this
        cases this
      · rfl
end
end Go.Proofs.YtaggacffjbjchaaGreatDoor
namespace Go.Proofs.YtaggacffjbjchaaGreatDoor
open Go.RowKit

/-- It answers a truth. -/
def BoolR (e : Ending) : Prop := ∃ b : Bool, e = .returned (.bool b)
def fewB (l : List Tb) : Bool := decide (l.length ≤ 20) && l.all (fun t => decide (t.l.length ≤ 20))
set_option maxRecDepth 100000 in
set_option maxHeartbeats 1600000 in
theorem few_any (S : Nat → Prop) (a : Option Addr) (cap : Nat) (l : List Tb) (w : World) (h : TbsS S w a l) (hcap : l.length ≤ cap) :
    Calls Tryz.prog 9 #[.slice a l.length cap] w fun e w' => e = .returned (.bool (fewB l)) ∧ w.grownBy w' none := by
  have H := Lib.hid h
  have hn9 := h.1
  obtain ⟨fb, hfb⟩ : ∃ fb, fb = fewB l := ⟨_, rfl⟩
  have HB := Lib.hid hfb
  rw [← hfb]
  clear hfb
  obtain ⟨n, hn⟩ : ∃ n, n = l.length := ⟨_, rfl⟩
  have Hn := Lib.hid hn
  rw [← hn] at hcap hn9 ⊢
  clear h hn
  go_enter Tryz.func9, Tryz.ntmps9
  by_cases h20 : (20 : Int) < n
  · go_wp2_with fail
    go_ret
    exact ⟨ret_bool (by rw [HB.out]; unfold fewB; rw [← Hn.out, show decide (n ≤ 20) = false by simp; omega]; rfl), grown_reflT _ _⟩
  go_wp2_with fail
  go_loopw [10] (fun s10 wr => ∃ j : Nat, s10 = .int .i64 j ∧ j ≤ n ∧ Hid ((∀ i, i < j → (l.getD i default).l.length ≤ 20) ∧ w.grownBy wr none)) (fun s10 _ => n - (intOf s10).toNat)
  case atStart => exact ⟨0, rfl, by omega, Lib.hid ⟨fun i hi => by omega, grown_reflT _ _⟩⟩
  case round =>
    obtain ⟨j, rfl, hj, K⟩ := hrel
    by_cases hlt : j < n
    · obtain ⟨b, off, rfl, _, c0, c1, c2⟩ := (H.out.keep (.of K.out.2)).at (i := j) (by rw [← Hn.out]; exact hlt)
      have HX : Hid (∀ q, (l.getD j default).l.length = q → (q ≤ 20 → ∀ i, i < j + 1 → (l.getD i default).l.length ≤ 20) ∧ (20 < q → fewB l = false)) := Lib.hid fun q hq => ⟨fun h i hi => by
        rcases Nat.lt_or_ge i j with e | e
        · exact K.out.1 i e
        · rw [show i = j by omega, hq]; exact h, fun h => by
        unfold fewB
        rw [Bool.and_eq_false_iff]
        right
        rw [List.all_eq_false]
        exact ⟨_, tb_mem (by rw [← Hn.out]; exact hlt), by rw [hq]; simpa using h⟩⟩
      generalize l.getD j default = x at *
      obtain ⟨xn, xa, xc, xl, xk⟩ := x
      simp only at c0 c1 c2 HX
      obtain ⟨xm, hxm⟩ : ∃ xm, xl.length = xm := ⟨_, rfl⟩
      have HX := Lib.hid (HX.out xm hxm)
      rw [hxm] at c1
      clear hxm
      have j0 : (j : Int) ≤ cap := by omega
      have KA := Lib.hid (K.out.2.trans (World.grownBy_alloc wr (.cells #[.string xn, .slice xa xm xc, .int .i64 xk] 38) none))
      by_cases hq : (20 : Int) < xm
      · go_wp2_with fail
        go_ret
        exact ⟨ret_bool (by rw [HB.out]; exact (HX.out.2 (by omega)).symm), KA.out⟩
      · go_wp2_with fail
        go_roundw
        case rel => exact ⟨j + 1, by go_num, by omega, Lib.hid ⟨HX.out.1 (by omega), KA.out⟩⟩
        case measure => simp [intOf]; omega
    · obtain rfl : n = j := by omega
      go_wp2_with fail
      go_ret
      refine ⟨ret_bool ?_, K.out.2⟩
      rw [HB.out]
      unfold fewB
      rw [← Hn.out, show decide (n ≤ 20) = true by simp; omega, Bool.true_and]
      symm
      rw [List.all_eq_true]
      intro t ht
      obtain ⟨i, hi, rfl⟩ := List.getElem_of_mem ht
      have := K.out.1 i (by rw [Hn.out]; exact hi)
      simp only [List.getD, List.getElem?_eq_getElem hi, Option.getD_some] at this
      simpa using this
set_option maxRecDepth 100000 in
set_option maxHeartbeats 1600000 in
theorem fits_any9 (S : Nat → Prop) (a : Option Addr) (cap : Nat) (l : List Om) (w : World) (h : OpS S w a l) (hcap : l.length ≤ cap) :
    Calls Tryz.prog 16 #[.slice a l.length cap] w fun e w' => BoolR e ∧ w.grownBy w' none := by
  have H := Lib.hid h
  have hn9 := h.1
  obtain ⟨n, hn⟩ : ∃ n, n = l.length := ⟨_, rfl⟩
  have Hn := Lib.hid hn
  rw [← hn] at hcap hn9 ⊢
  clear h hn
  go_enter Tryz.func16, Tryz.ntmps16
  go_wp2_with fail
  go_loopw [7] (fun s7 wr => ∃ j : Nat, s7 = .int .i64 j ∧ j ≤ n ∧ Hid (w.grownBy wr none)) (fun s7 _ => n - (intOf s7).toNat)
  case atStart => exact ⟨0, rfl, by omega, Lib.hid (grown_reflT _ _)⟩
  case round =>
    obtain ⟨j, rfl, hj, K⟩ := hrel
    by_cases hlt : j < n
    · obtain ⟨⟨b, off, rfl, _, c0, c1, c2⟩, _⟩ := (H.out.keep (.of K.out)).at (i := j) (by rw [← Hn.out]; exact hlt)
      generalize l.getD j default = x at *
      obtain ⟨xk, xn, ⟨xa, xc, xl⟩⟩ := x
      simp only [Rw.v] at c0 c1 c2
      generalize xl.length = xm at *
      have j0 : (j : Int) ≤ cap := by omega
      have KA := Lib.hid (K.out.trans (World.grownBy_alloc wr (.cells #[.int .i64 xk, .string xn, .slice xa xm xc] 82) none))
      by_cases hq : (20 : Int) < xm
      · go_wp2_with fail
        go_ret
        exact ⟨⟨_, rfl⟩, KA.out⟩
      · go_wp2_with fail
        go_roundw
        case rel => exact ⟨j + 1, by go_num, by omega, KA⟩
        case measure => simp [intOf]; omega
    · obtain rfl : n = j := by omega
      go_wp2_with fail
      all_goals
        go_ret
        exact ⟨⟨_, rfl⟩, K.out⟩
abbrev cSt9 (a : Ptr) (n c : Nat) (a2 : Ptr) (n2 c2 : Nat) (a3 : Ptr) (n3 c3 : Nat) : Obj := .cells #[.slice a n c, .slice a2 n2 c2, .slice a3 n3 c3] 32
theorem pairs_info : (Tryz.prog.info? 68).map (fun i => (i.zero, i.size, i.bytes)) = some (some (.slice none 0 0), 1, 24) := by kernel_rfl
theorem made_tabs (n : Nat) (hn : n ≤ 1000) : ∃ C : Array Value, (∀ w : World, (Instr.makeSlice 65 (.int .i64 n) (.int .i64 n)).run Tryz.prog w = .ok (.slice (some ⟨w.heap.size, 0, none⟩) n n) (w.alloc (.cells C 68))) ∧ ∀ i, i < n → C[i]? = some (.slice none 0 0) :=
  ⟨madeCells #[.slice none 0 0] n, fun w => run_make_row' _ _ (.slice none 0 0) 24 Tryz.underlying65 pairs_info rfl .i64 .i64 n (by omega) (by omega) w, fun i hi => by
    rw [← Array.getElem?_toList, toList_madeCells_one]
    simp [hi]⟩
/-- The document's store of a catalog, without rows. -/
def New9 (a : Ptr) (n cap : Nat) (w w' : World) (v : Value) : Prop :=
  ∃ p q, v = .agg #[.slice a n cap, .slice (some ⟨p, 0, none⟩) 1 1, .slice none 0 0] ∧ w.heap.size ≤ p ∧ w.heap.size ≤ q ∧ w'.cell? ⟨p, 0, none⟩ = some (.slice (some ⟨q, 0, none⟩) n n) ∧ (∀ i, i < n → w'.cell? ⟨q, i, none⟩ = some (.slice none 0 0))
set_option maxRecDepth 100000 in
set_option maxHeartbeats 1600000 in
theorem refNew_any (a : Option Addr) (cap : Nat) (l : List Tb) (w : World) (h : TabsAt w.heap.size w a l) (hcap : l.length ≤ cap) (hcs : ∀ t ∈ l, t.l.length ≤ t.cap) (hN : ∀ t ∈ l, t.n.size ≤ 9223372036854775807 ∧ ∀ i, i < t.l.length → (t.l.getD i default).n.size ≤ 9223372036854775807) :
    Calls Tryz.prog 11 #[.slice a l.length cap] w fun e w' => ((RightG l ∧ ∃ v, New9 a l.length cap w w' v ∧ e = .returned (.tuple #[v, .int .i64 0])) ∨ ∃ k y, Flaw6 (FullG l) (MalG l) (TwcG l) l.length k y ∧ e = .returned (.tuple #[.agg #[.slice none 0 0, .slice none 0 0, .slice none 0 0], .int .i64 y])) ∧ w.grownBy w' none := by
  by_cases hr : RightG l
  · have HK : Hid (∀ W, w.grownBy W none → Calls Tryz.prog 38 #[.slice a l.length cap] W fun e w' => e = .returned (.tuple #[.int .i64 0, .int .i64 0]) ∧ W.grownBy w' none) := Lib.hid fun W hW => (refCheck_all a cap l W ((h.keep hW (by simp)).mono hW.size) hcap hcs hN).mono fun e w' h => ⟨by
      rcases h.1 with ⟨_, h⟩ | ⟨k, y, h, _⟩
      · exact h
      · exact absurd hr h.not, h.2⟩
    have HR := Lib.hid hr
    have hn6 : l.length ≤ 6 := by
      rcases Nat.lt_or_ge 6 l.length with h | h
      · have := (hr 6 h).1.1; omega
      · exact h
    clear h hcap hcs hN hr
    generalize hn : l.length = n at *
    go_enter Tryz.func11, Tryz.ntmps11
    go_wp2_with fail
    refine (HK.out _ (World.grownBy_alloc _ _ _)).mono ?_
    rintro e w2 ⟨rfl, hg2⟩
    obtain ⟨C, hmk, hC⟩ := made_tabs n (by omega)
    have HC := Lib.hid hC
    clear hC
    have b0 := (hg2.block w.heap.size (by simp) (by simp)).trans (heap_alloc_new w _)
    have hlt := (Array.getElem?_eq_some_iff.1 b0).1
    obtain ⟨b, hb⟩ : ∃ b, b = w.heap.size := ⟨_, rfl⟩
    rw [← hb] at b0 hlt
    have up : ∀ (W : World) (x : Obj) o o', b < W.heap.size → W.heap[b]? = some x → ((W.alloc o).alloc o').heap[b]? = some x := fun W x o o' hl hx => (((World.grownBy_alloc W o none).trans (World.grownBy_alloc _ o' none)).block b hl (by simp)).trans hx
    have b1 : ∀ v o o', (((w2.alloc o).alloc o').setCell ⟨b, 0, none⟩ v).heap[b]? = some (.cells #[v, .slice none 0 0, .slice none 0 0] 32 (0, 0)) := fun v o o' => by simpa using heap_setCell_same _ _ 0 _ _ v (up w2 _ o o' hlt b0)
    have b2 : ∀ v u o o', ((((w2.alloc o).alloc o').setCell ⟨b, 0, none⟩ v).setCell ⟨b, 1, none⟩ u).heap[b]? = some (.cells #[v, u, .slice none 0 0] 32 (0, 0)) := fun v u o o' => by simpa using heap_setCell_same _ _ 1 _ _ u (b1 v o o')
    have b3 : ∀ v u z o o', (((((w2.alloc o).alloc o').setCell ⟨b, 0, none⟩ v).setCell ⟨b, 1, none⟩ u).setCell ⟨b, 2, none⟩ z).heap[b]? = some (.cells #[v, u, z] 32 (0, 0)) := fun v u z o o' => by simpa using heap_setCell_same _ _ 2 _ _ z (b2 v u o o')
    have c0 := fun o o' => cell_of_row _ _ 0 _ _ _ (up w2 _ o o' hlt b0)
    have c1 := fun v o o' => cell_of_row _ _ 1 _ _ _ (b1 v o o')
    have c2 := fun v u o o' => cell_of_row _ _ 2 _ _ _ (b2 v u o o')
    have f0 := fun o o' => froz_of (up w2 _ o o' hlt b0) 0
    have f1 := fun v o o' => froz_of (b1 v o o') 1
    have f2 := fun v u o o' => froz_of (b2 v u o o') 2
    have z0 := fun v u z o o' => cell_of_row _ _ 0 _ _ _ (b3 v u z o o')
    have z1 := fun v u z o o' => cell_of_row _ _ 1 _ _ _ (b3 v u z o o')
    have z2 := fun v u z o o' => cell_of_row _ _ 2 _ _ _ (b3 v u z o o')
    simp only [List.getElem?_toArray, List.getElem?_cons_zero, List.getElem?_cons_succ] at c0 c1 c2 z0 z1 z2
    have K2 := Lib.hid ((World.grownBy_alloc w _ none).trans hg2)
    have L2 := Lib.hid hlt
    clear b0 b1 b2 b3 up hg2 hlt
    subst hb
    go_wp2_with fail
    refine bodyPost_ret (v := .tuple #[.agg #[.slice a n cap, .slice (some ⟨w2.heap.size + 1, 0, none⟩) 1 1, .slice none 0 0], .int .i64 0]) (by simp [results, Tryz.results11, go_sem, z0, z1, z2]) rfl ?_
    have hlt := K2.out.size
    have hlt2 : w.heap.size < w2.heap.size := L2.out
    have e1 := heap_alloc_new w2 (.cells C 68)
    have s1 : (w2.alloc (.cells C 68)).heap.size = w2.heap.size + 1 := by simp
    have g1 := World.grownBy_alloc w2 (.cells C 68) none
    generalize w2.alloc (.cells C 68) = wa at *
    have e2 := heap_alloc_new wa (.cells #[.slice (some ⟨w2.heap.size, 0, none⟩) n n] 65)
    have g2 := World.grownBy_alloc wa (.cells #[.slice (some ⟨w2.heap.size, 0, none⟩) n n] 65) none
    rw [s1] at e2
    have e3 := (g2.block w2.heap.size (by omega) (by simp)).trans e1
    generalize wa.alloc (.cells #[.slice (some ⟨w2.heap.size, 0, none⟩) n n] 65) = wb at *
    obtain ⟨wf, hwf⟩ : ∃ wf, wf = (((wb.setCell ⟨w.heap.size, 0, none⟩ (.slice a n cap)).setCell ⟨w.heap.size, 1, none⟩ (.slice (some ⟨w2.heap.size + 1, 0, none⟩) 1 1)).setCell ⟨w.heap.size, 2, none⟩ (.slice none 0 0)) := ⟨_, rfl⟩
    have ho : Only (fun k => k = w.heap.size) wb wf := by
      rw [hwf]
      exact ((Only.one _ wb 0 _).trans (Only.one _ _ 1 _) (fun _ e => .inl e)).trans (Only.one _ _ 2 _) (fun _ e => .inl e)
    rw [← hwf]
    have l2 := (Array.getElem?_eq_some_iff.1 e2).1
    have l3 := (Array.getElem?_eq_some_iff.1 e3).1
    have e2 := (ho.block _ l2 (by omega)).trans e2
    have e3 := (ho.block _ l3 (by omega)).trans e3
    refine ⟨.inl ⟨HR.out, _, ⟨w2.heap.size + 1, w2.heap.size, rfl, by omega, by omega, cell_of_row _ _ 0 _ _ _ e2, fun i hi => ?_⟩, rfl⟩, only_grown (K2.out.trans (g1.trans g2)) ho (fun k hk => by have e : k = w.heap.size := hk; omega)⟩
    rw [cell_of_row _ _ i _ _ _ e3]
    exact HC.out i hi
  · have HK : Hid (∀ W, w.grownBy W none → Calls Tryz.prog 38 #[.slice a l.length cap] W fun e w' => (∃ k y, Flaw6 (FullG l) (MalG l) (TwcG l) l.length k y ∧ (y = 3 ∨ y = 2 ∨ y = 23) ∧ e = .returned (.tuple #[.int .i64 k, .int .i64 y])) ∧ W.grownBy w' none) := Lib.hid fun W hW => (refCheck_all a cap l W ((h.keep hW (by simp)).mono hW.size) hcap hcs hN).mono fun e w' h => ⟨by
      rcases h.1 with ⟨h, _⟩ | ⟨k, y, h, e⟩
      · exact absurd h hr
      · exact ⟨k, y, h, by rcases h.2.2 with ⟨_, h⟩ | ⟨_, _, h⟩ | ⟨_, _, _, h⟩ <;> simp [h], e⟩, h.2⟩
    obtain ⟨FL, hFL⟩ : ∃ FL : Nat → Int → Prop, FL = fun k y => Flaw6 (FullG l) (MalG l) (TwcG l) l.length k y := ⟨_, rfl⟩
    refine (?_ : Calls Tryz.prog 11 #[.slice a l.length cap] w fun e w' => (∃ (k : Nat) (y : Int), FL k y ∧ e = .returned (.tuple #[.agg #[.slice none 0 0, .slice none 0 0, .slice none 0 0], .int .i64 y])) ∧ w.grownBy w' none).mono fun e w' h => ⟨.inr (by rw [hFL] at h; exact h.1), h.2⟩
    have HK2 : Hid (∀ W, w.grownBy W none → Calls Tryz.prog 38 #[.slice a l.length cap] W fun e w' => (∃ (k : Nat) (y : Int), FL k y ∧ (y = 3 ∨ y = 2 ∨ y = 23) ∧ e = .returned (.tuple #[.int .i64 k, .int .i64 y])) ∧ W.grownBy w' none) := Lib.hid (by rw [hFL]; exact HK.out)
    clear h hcap hcs hN hr hFL HK
    generalize l.length = n at *
    go_enter Tryz.func11, Tryz.ntmps11
    go_wp2_with fail
    refine (HK2.out _ (World.grownBy_alloc _ _ _)).mono ?_
    rintro e w2 ⟨⟨k, y, hfl, hy, rfl⟩, hg2⟩
    have FH := Lib.hid hfl
    have b0 := (hg2.block w.heap.size (by simp) (by simp)).trans (heap_alloc_new w _)
    have K2 := Lib.hid ((World.grownBy_alloc w _ none).trans hg2)
    clear hfl hg2
    have c0 := cell_of_row _ _ 0 _ _ _ b0
    have c1 := cell_of_row _ _ 1 _ _ _ b0
    have c2 := cell_of_row _ _ 2 _ _ _ b0
    have f0 := froz_of b0 0
    have f1 := froz_of b0 1
    have f2 := froz_of b0 2
    simp at c0 c1 c2
    clear b0
    rcases hy with rfl | rfl | rfl
    all_goals
      go_wp2_with fail
      refine bodyPost_ret (v := .tuple #[.agg #[.slice none 0 0, .slice none 0 0, .slice none 0 0], .int .i64 _]) (by simp [results, Tryz.results11, go_sem, c0, c1, c2]) rfl ⟨⟨k, _, FH.out, rfl⟩, ?_⟩
      exact grown_cell9 (grown_cell9 (grown_cell9 K2.out (Nat.le_refl _) _ _) (Nat.le_refl _) _ _) (Nat.le_refl _) _ _
end Go.Proofs.YtaggacffjbjchaaGreatDoor
namespace Go.Proofs.YtaggacffjbjchaaGreatDoor
open Go.RowKit

theorem xs_new (w : World) (G : Nat) (s : Stm) (w2 : World) (hs : SAt w.heap.size w2 s) (hE : ErrT G w) (hG : G ≤ w.heap.size) (hg : w.grownBy w2 none) (hsn : s.sn = [default]) (hts : ExT s.ts) : XS w G s.b w2 s 0 (fun _ => none) := by
  have ht : s.top = default := by unfold Stm.top; rw [hsn]; rfl
  refine ⟨hs, hE.grown hg, rfl, hts, ⟨?_, ?_, fun m => ?_, fun i _ _ => ?_⟩, hG, hg⟩
  all_goals rw [ht]
  · exact List.Pairwise.nil
  · rfl
  · rfl
  · exact Nat.zero_le _
set_option maxRecDepth 100000 in
set_option maxHeartbeats 6400000 in
theorem awake9_any (G : Nat) (w : World) (hw : WhyG w) (hE : ErrT G w) (hG : G ≤ w.heap.size) :
    Calls Tryz.prog 8 #[] w fun e w' => e = .returned (.bool true) ∧ w.grownBy w' none := by
  have HC := Lib.hid (catalogX_any w)
  have HW := Lib.hid (And.intro hw (And.intro hE hG))
  have HP := Lib.hid putX_any
  clear hw hE hG
  go_enter Tryz.func8, Tryz.ntmps8
  go_wp2_with fail
  refine HC.out.mono ?_
  rintro e w1 ⟨⟨a, a', rfl, ht⟩, hg1⟩
  have HN := Lib.hid (newS_ok a 1 G (fun b => w.heap.size ≤ b) [exTab a'] w1 ht (by simp) (fun t ht => by simp only [List.mem_cons, List.not_mem_nil, or_false] at ht; subst ht; exact Nat.le_refl 2) (HW.out.1.grown hg1) (HW.out.2.1.grown hg1) (ex_right a'))
  simp only [List.length_cons, List.length_nil, Nat.zero_add] at HN
  have G1 := Lib.hid hg1
  clear ht hg1 HC
  go_wp2_with fail
  refine HN.out.mono ?_
  rintro e w2 ⟨⟨s, rfl, hs, hv0, hcs, hsn, hts⟩, hg2⟩
  have X2 := xs_new w1 G s w2 hs (HW.out.2.1.grown G1.out) (Nat.le_trans HW.out.2.2 G1.out.size) hg2 hsn hts
  generalize s.b = b at *
  have X2 := Lib.hid X2
  have V2 := Lib.hid hv0
  clear hs hv0 hcs hsn hts hg2 HN
  go_wp2_with fail
  refine (HP.out 1 ⟨#[97]⟩ _ (by decide)).mono ?_
  rintro e w3 ⟨⟨a3, rfl, hr3⟩, hg3⟩
  have R3 := Lib.hid hr3
  have G3 := Lib.hid hg3
  clear hr3 hg3
  go_wp2_with fail
  refine (HP.out 2 ⟨#[98]⟩ _ (by decide)).mono ?_
  rintro e w4 ⟨⟨a4, rfl, hr4⟩, hg4⟩
  have HC1 := Lib.hid (X2.out.putTwo G3.out hg4 a3 a4 1 2 ⟨#[97]⟩ ⟨#[98]⟩ R3.out hr4 (by decide) (by decide) rfl rfl (by decide) (by decide) (by rw [V2.out]; decide))
  rw [V2.out] at HC1
  clear hr4 hg4 R3 G3
  go_wp2_with fail
  refine HC1.out.mono ?_
  rintro e w5 ⟨s5, c5, n5, rfl, hx5, hv5⟩
  have B5 := heap_alloc_new w5 (.cells #[.int .i64 1, .slice c5 2 n5] 50)
  have N5 := hx5.new (grown_reflT w5 none)
  have X5 := Lib.hid (hx5.keepG (World.grownBy_alloc w5 (.cells #[.int .i64 1, .slice c5 2 n5] 50) none))
  have L5 : w5.heap.size < (w5.alloc (.cells #[.int .i64 1, .slice c5 2 n5] 50)).heap.size := by simp
  have V5 := Lib.hid hv5
  clear hx5 hv5 HC1 X2 V2
  go_wp2_with fail
  refine (HP.out 1 ⟨#[97]⟩ _ (by decide)).mono ?_
  rintro e w6 ⟨⟨a6, rfl, hr6⟩, hg6⟩
  have HC2 := Lib.hid (X5.out.putSame hg6 a6 1 ⟨#[97]⟩ hr6 (by decide) (by simp [updX]) (by decide) (by rw [V5.out]; decide))
  rw [V5.out] at HC2
  clear hr6 hg6
  go_wp2_with fail
  refine HC2.out.mono ?_
  rintro e w7 ⟨s7, c7, n7, rfl, hx7, hv7, hst7⟩
  have B7 := (hst7 _ L5 N5).trans B5
  have hg8 := World.grownBy_alloc w7 (.cells #[.int .i64 2, .slice c7 0 n7] 50) none
  have B8 := Lib.hid (And.intro ((hg8.block _ (Array.getElem?_eq_some_iff.1 B7).1 (by simp)).trans B7) (heap_alloc_new w7 (.cells #[.int .i64 2, .slice c7 0 n7] 50)))
  have X7 := Lib.hid (hx7.keepG hg8)
  have V7 := Lib.hid hv7
  clear hx7 hv7 HC2 X5 B5 N5 L5 hst7 B7 hg8
  have HI := Lib.hid (refInt_any 3)
  have HC3 := Lib.hid (X7.out.delNone ((World.grownBy_alloc _ (.cells #[.int .i64 2, .int .i64 3, .string ⟨#[]⟩] 79) none).trans (World.grownBy_alloc _ (.cells #[.int .i64 2, .int .i64 3, .string ⟨#[]⟩] 79) none)) _ 3 (rw_one _ 79 (viV 3) _ (by simp) (show 0 ≤ maxLen from Nat.zero_le _)) (by simp [updX]) (by rw [V7.out]; decide))
  simp only [World.size_alloc] at HC3
  have hsz8 : (w7.alloc (.cells #[.int .i64 2, .slice c7 0 n7] 50)).heap.size = w7.heap.size + 1 := by simp
  go_wp2_with fail
  refine (HI.out _).mono ?_
  rintro e w8 ⟨rfl, rfl⟩
  unfold vi
  go_wp2_with fail
  refine HC3.out.mono ?_
  rintro e w9 ⟨rfl, hx9, hg9⟩
  have hg10 := hg9.trans (World.grownBy_alloc w9 (.cells #[.int .i64 0, .slice none 0 0] 50) none)
  have b1 := (hg10.block _ (Array.getElem?_eq_some_iff.1 B8.out.1).1 (by simp)).trans B8.out.1
  have b2 := (hg10.block _ (Array.getElem?_eq_some_iff.1 B8.out.2).1 (by simp)).trans B8.out.2
  have c0 := cell_of_row _ _ 0 _ _ _ b1
  have c1 := cell_of_row _ _ 1 _ _ _ b1
  have d0 := cell_of_row _ _ 0 _ _ _ b2
  have d1 := cell_of_row _ _ 1 _ _ _ b2
  simp at c0 c1 d0 d1
  have HV := Lib.hid (versionS_any w1.heap.size s7 _ (hx9.at_.keepG (World.grownBy_alloc w9 (.cells #[.int .i64 0, .slice none 0 0] 50) none)))
  rw [hx9.hb, V7.out] at HV
  have GE := Lib.hid (HW.out.1.grown G1.out)
  have GR := Lib.hid (G1.out.trans (hx9.gr.trans (World.grownBy_alloc w9 (.cells #[.int .i64 0, .slice none 0 0] 50) none)))
  clear hx9 hg9 hg10 b1 b2 HC3 X7 B8 V7
  go_wp2_with fail
  refine HV.out.mono ?_
  rintro e w10 ⟨rfl, hg⟩
  have GX := Lib.hid (GR.out.trans hg)
  clear hg
  go_wp2_with fail
  go_ret
  exact ⟨rfl, GX.out⟩
end Go.Proofs.YtaggacffjbjchaaGreatDoor
