import Derived.Test.YtfambadamebjjaaZs15
import Derived.Test.YtfambadamebjjaaZs39
import Derived.Test.YtfambadamebjjaaZs13
import Derived.Test.YtfambadamebjjaaZs22
import Derived.Test.YtfambadamebjjaaZs19
import Derived.Test.YtfambadamebjjaaZs21
import Derived.Deep.RegionHeld
set_option linter.unusedSimpArgs false
set_option linter.unusedVariables false
namespace Go.Proofs.Ytfambadamebjjaa
open Go.RowKit
def fewG (l : List Tb) : Bool := decide (l.length ≤ 20) && l.all (fun t => decide (t.l.length ≤ 20))
set_option maxRecDepth 100000 in
set_option maxHeartbeats 1600000 in
theorem fewG_any (a : Option Addr) (cap : Nat) (l : List Tb) (w : World) (h : TabsAt w.heap.size w a l) (hcap : l.length ≤ cap) :
  Calls Try.prog 29 #[.slice a l.length cap] w fun e w' => e = .returned (.bool (fewG l)) ∧ w.grownBy w' none := by
 have H := Lib.hid h
 have hn9 := h.1
 obtain ⟨fb, hfb⟩ : ∃ fb, fb = fewG l := ⟨_, rfl⟩
 have HB := Lib.hid hfb
 rw [← hfb]
 clear hfb
 obtain ⟨n, hn⟩ : ∃ n, n = l.length := ⟨_, rfl⟩
 have Hn := Lib.hid hn
 rw [← hn] at hcap hn9 ⊢
 clear h hn
 go_enter Try.func29, Try.ntmps29
 by_cases h20 : (20 : Int) < n
 ·go_wp2_with fail
  go_ret
  exact ⟨ret_bool (by rw [HB.out]; unfold fewG; rw [← Hn.out, show decide (n ≤ 20) = false by simp; omega]; rfl), grown_reflT _ _⟩
 go_wp2_with fail
 go_loopw [10] (fun s10 wr => ∃ j : Nat, s10 = .int .i64 j ∧ j ≤ n ∧ Hid ((∀ i, i < j → (l.getD i default).l.length ≤ 20) ∧ w.grownBy wr none)) (fun s10 _ => n - (intOf s10).toNat)
 case atStart => exact ⟨0, rfl, by omega, Lib.hid ⟨fun i hi => by omega, grown_reflT _ _⟩⟩
 case round =>
  obtain ⟨j, rfl, hj, K⟩ := hrel
  by_cases hlt : j < n
  ·obtain ⟨b, off, rfl, _, c0, c1, c2⟩ := (H.out.keep K.out.2 (by simp)).at (i := j) (by rw [← Hn.out]; exact hlt)
   have HX : Hid (∀ q, (l.getD j default).l.length = q → (q ≤ 20 → ∀ i, i < j + 1 → (l.getD i default).l.length ≤ 20) ∧ (20 < q → fewG l = false)) := Lib.hid fun q hq => ⟨fun h i hi => by
    rcases Nat.lt_or_ge i j with e | e
    ·exact K.out.1 i e
    ·rw [show i = j by omega, hq]; exact h, fun h => by
    unfold fewG
    rw [Bool.and_eq_false_iff]
    right
    rw [List.all_eq_false]
    exact ⟨_, tb_mem (by rw [← Hn.out]; exact hlt), by rw [hq]; simpa using h⟩⟩
   generalize l.getD j default = x at *
   obtain ⟨xn, xa, xc, xl, xk⟩ := x
   simp only at c0 c1 c2 HX
   obtain ⟨xm, hxm⟩ : ∃ xm, xl.length = xm := ⟨_, rfl⟩
   have HX := Lib.hid (HX.out xm hxm)
   rw [hxm] at c1
   clear hxm
   have j0 : (j : Int) ≤ cap := by omega
   have KA := Lib.hid (K.out.2.trans (World.grownBy_alloc wr (.cells #[.string xn, .slice xa xm xc, .int .i64 xk] 24) none))
   by_cases hq : (20 : Int) < xm
   ·go_wp2_with fail
    go_ret
    exact ⟨ret_bool (by rw [HB.out]; exact (HX.out.2 (by omega)).symm), KA.out⟩
   ·go_wp2_with fail
    go_roundw
    case rel => exact ⟨j + 1, by go_num, by omega, Lib.hid ⟨HX.out.1 (by omega), KA.out⟩⟩
    case measure => simp [intOf]; omega
  ·obtain rfl : n = j := by omega
   go_wp2_with fail
   go_ret
   refine ⟨ret_bool ?_, K.out.2⟩
   rw [HB.out]
   unfold fewG
   rw [← Hn.out, show decide (n ≤ 20) = true by simp; omega, Bool.true_and]
   symm
   rw [List.all_eq_true]
   intro t ht
   obtain ⟨i, hi, rfl⟩ := List.getElem_of_mem ht
   have := K.out.1 i (by rw [Hn.out]; exact hi)
   simp only [List.getD, List.getElem?_eq_getElem hi, Option.getD_some] at this
   simpa using this
set_option maxRecDepth 100000 in
theorem goodS_any (a : Option Addr) (cap : Nat) (l : List Tb) (w : World) (h : TabsAt w.heap.size w a l) (hcap : l.length ≤ cap) (hcs : ∀ t ∈ l, t.l.length ≤ t.cap) (hN : ∀ t ∈ l, t.n.size ≤ 9223372036854775807 ∧ ∀ i, i < t.l.length → (t.l.getD i default).n.size ≤ 9223372036854775807) :
  Calls Try.prog 12 #[.slice a l.length cap] w fun e w' => (∃ b, e = .returned (.bool b) ∧ (b = true ↔ RightG l ∧ fewG l = true)) ∧ w.grownBy w' none := by
 have HC := Lib.hid (refCheck_all a cap l w h hcap hcs hN)
 have HF := Lib.hid (fun W (hW : w.grownBy W none) => fewG_any a cap l W ((h.keep hW (by simp)).mono hW.size) hcap)
 have HZ : Hid (∀ k y, Flaw6 (FullG l) (MalG l) (TwcG l) l.length k y → y ≠ 0) := Lib.hid fun k y hf => by
  obtain ⟨_, _, hv⟩ := hf
  rcases hv with ⟨_, h⟩ | ⟨_, _, h⟩ | ⟨_, _, _, h⟩ <;> omega
 have HFl : Hid (∀ k y, Flaw6 (FullG l) (MalG l) (TwcG l) l.length k y → ¬ RightG l) := Lib.hid fun k y hf hr => by
  obtain ⟨hk, _, hv⟩ := hf
  have := hr k hk
  rcases hv with ⟨h, _⟩ | ⟨_, h, _⟩ | ⟨_, _, h, _⟩
  ·exact h this.1
  ·exact h this.2.1
  ·exact h this.2.2
 obtain ⟨fb, hfb⟩ : ∃ fb, fb = fewG l := ⟨_, rfl⟩
 rw [← hfb] at HF ⊢
 generalize RightG l = R at *
 generalize l.length = n at *
 clear h hcap hcs hN hfb
 go_enter Try.func12, Try.ntmps12
 go_wp2_with fail
 refine (HC.out).mono ?_
 rintro e w2 ⟨h, hg⟩
 have G2 := Lib.hid hg
 clear hg
 rcases h with ⟨hr, rfl⟩ | ⟨k, y, hf, rfl⟩
 ·have HR := Lib.hid hr
  clear hr HZ
  go_wp2_with fail
  refine (HF.out _ G2.out).mono ?_
  rintro e w3 ⟨rfl, hg⟩
  have G3 := Lib.hid (G2.out.trans hg)
  clear hg
  go_wp2_with fail
  go_ret
  exact ⟨⟨fb, rfl, ⟨fun hb => ⟨HR.out, hb⟩, fun h => h.2⟩⟩, G3.out⟩
 ·have hy := HZ.out k y hf
  have HNR := Lib.hid (HFl.out k y hf)
  have hy0 : (y == 0) = false := by rw [beq_eq_false_iff_ne]; exact hy
  clear hf hy HZ
  go_wp2_with fail
  go_ret
  exact ⟨⟨false, rfl, ⟨fun hb => (by cases hb), fun h => absurd h.1 HNR.out⟩⟩, G2.out⟩
end Go.Proofs.Ytfambadamebjjaa
namespace Go.Proofs.Ytfambadamebjjaa
open Go.RowKit
set_option linter.unusedVariables false
theorem Prd.w1s_app (l m : List Prd) : Prd.w1s (l ++ m) ↔ Prd.w1s l ∧ Prd.w1s m := by
 rw [Prd.w1s_iff, Prd.w1s_iff, Prd.w1s_iff]
 simp only [List.mem_append]
 exact ⟨fun h => ⟨fun x hx => h x (.inl hx), fun x hx => h x (.inr hx)⟩, fun h x hx => hx.elim (h.1 x) (h.2 x)⟩
theorem partsF_w1 (word : ByteArray) (pf : RS → RS × Prd) (hp : ∀ s : RS, (pf s).2.w1) : ∀ (f : Nat) (s : RS) (acc : List Prd), Prd.w1s acc → Prd.w1s (partsF word pf f s acc).2
 | 0, _, _, ha => ha
 | f + 1, s, acc, ha => by
  rw [partsF]
  split
  ·exact partsF_w1 word pf hp f _ _ ((Prd.w1s_app _ _).2 ⟨ha, hp _, trivial⟩)
  ·exact ha
theorem joinP_w1 (kind p : Nat) (hk : kind ≠ 11) (l : List Prd) (h : Prd.w1s l) : (joinP kind p l).w1 := by
 unfold joinP
 split
 ·exact h.1
 ·exact ⟨fun e => absurd e hk, h⟩
theorem partsL_w1 (kind : Nat) (hk : kind ≠ 11) (word : ByteArray) (pf : RS → RS × Prd) (hp : ∀ s : RS, (pf s).2.w1) (s : RS) : (partsL kind word pf s).2.w1 :=
 joinP_w1 kind _ hk _ (partsF_w1 word pf hp _ _ _ ⟨hp s, trivial⟩)
theorem amongL_w1 (col : ByteArray) (pos : Nat) (s : RS) : (amongL col pos s).2.w1 := by
 unfold amongL
 split
 ·exact ⟨by simp, trivial⟩
 ·exact ⟨by simp, ⟨by simp, trivial⟩, ⟨by simp, trivial⟩, trivial⟩
theorem notP_w1 {p : Prd} (h : p.w1) (n : Nat) : (notP p n).w1 := ⟨by simp, h, trivial⟩
theorem nameP_w1 (pos : Nat) (s : RS) : (nameP pos s).2.w1 := by
 unfold nameP
 dsimp only
 repeat' split
 all_goals first | exact notP_w1 (amongL_w1 _ _ _) _ | exact amongL_w1 _ _ _ | exact ⟨by simp, trivial⟩
theorem litP_w1 (pos : Nat) (s : RS) : (litP pos s).2.w1 := by
 unfold litP
 dsimp only
 repeat' split
 all_goals first | (unfold truthP; exact ⟨fun e => by split at e <;> simp at e, trivial⟩) | exact ⟨by simp, trivial⟩
theorem oneF_w1 : ∀ (d : Nat) (s : RS), (oneF d s).2.w1
 | 0, s => ⟨by simp, trivial⟩
 | d + 1, s => by
  rw [oneF]
  dsimp only
  repeat' split
  ·exact notP_w1 (oneF_w1 d _) _
  ·exact partsL_w1 9 (by decide) bOr _ (fun s => partsL_w1 8 (by decide) bAnd _ (oneF_w1 d) s) _
  ·exact nameP_w1 _ _
  ·exact litP_w1 _ _
theorem whereQ_w1 (s : RS) : (whereQ s).2.w1 := by
 unfold whereQ
 split
 ·exact partsL_w1 9 (by decide) bOr _ (fun s => partsL_w1 8 (by decide) bAnd _ (oneF_w1 20) s) _
 ·exact ⟨by simp, trivial⟩
mutual
theorem Prd.w1_e : ∀ p : Prd, p.e.w1 ↔ p.w1
 | .mk _ _ _ _ _ _ ks _ => by rw [Prd.e, Prd.w1, Prd.w1, Prd.w1s_e ks]
theorem Prd.w1s_e : ∀ l : List Prd, Prd.w1s (Prd.es l) ↔ Prd.w1s l
 | [] => Iff.rfl
 | x :: r => by rw [Prd.es, Prd.w1s, Prd.w1s, Prd.w1_e x, Prd.w1s_e r]
end
mutual
theorem Prd.n_e1 : ∀ p : Prd, p.e.n = p.n
 | .mk _ _ _ _ _ _ ks _ => by rw [Prd.e, Prd.n, Prd.n, Prd.ns_e1 ks]
theorem Prd.ns_e1 : ∀ l : List Prd, Prd.ns (Prd.es l) = Prd.ns l
 | [] => rfl
 | x :: r => by rw [Prd.es, Prd.ns, Prd.ns, Prd.n_e1 x, Prd.ns_e1 r]
end
theorem itemsQ_lenS (s : RS) : (itemsQ s).2.2.length ≤ 8 := by
 unfold itemsQ
 split
 ·simp
 ·exact listF_len 8 itemL 9 s [] (by simp)
theorem groupQ_lenS (s : RS) : (groupQ s).2.length ≤ 8 := by
 unfold groupQ
 split
 ·exact listF_len 8 columnL 9 _ [] (by simp)
 ·simp
theorem orderQ_lenS (s : RS) : (orderQ s).2.length ≤ 8 := by
 unfold orderQ
 split
 ·exact listF_len 8 keyL 9 _ [] (by simp)
 ·simp
structure Red (q : Qry) : Prop where
 n : q.cond.n ≤ 1000
 i : q.items.length ≤ 8
 g : q.group.length ≤ 8
 o : q.order.length ≤ 8
 w : q.cond.w1
theorem parseL_red {T : ByteArray} {q : Qry} (h : parseL T = .ok q) : Red q := by
 unfold parseL at h
 cases hl : lexL T with
 | error e => rw [hl] at h; simp at h
 | ok l =>
  rw [hl] at h
  simp only at h
  cases he : (queryL ⟨l, none⟩).1.err with
  | some e => rw [he] at h; simp at h
  | none =>
   rw [he] at h
   simp only [Except.ok.injEq] at h
   obtain ⟨hok, hlen, _⟩ := lexL_ok T l hl
   have h1 := hok.nneed (t := bSel) (by decide)
   have h2 := h1.trans (itemsQ_next _ h1.1)
   have h3 := h2.trans (h2.1.nneed (t := bFrom) (by decide))
   have h4 := h3.trans h3.1.nname
   have h5 := whereQ_n _ h4.1
   have h6 := h4.2
   simp only at h6
   rw [← h]
   refine ⟨?_, itemsQ_lenS _, groupQ_lenS _, orderQ_lenS _, whereQ_w1 _⟩
   show (whereQ _).2.n ≤ 1000
   omega
theorem Red.of {y : Qm} {Q : Qry} (h : Red Q) (he : y.e.e = Q.e) : y.items.length ≤ 8 ∧ y.group.length ≤ 8 ∧ y.order.length ≤ 8 ∧ y.cond.n ≤ 1000 ∧ y.cond.e.w1 := by
 have e1 := congrArg (fun q : Qry => q.items.length) he
 have e2 := congrArg (fun q : Qry => q.group.length) he
 have e3 := congrArg (fun q : Qry => q.order.length) he
 have e4 := congrArg Qry.cond he
 simp only [Qry.e, Qm.e, List.length_map] at e1 e2 e3 e4
 have h1 := h.i
 have h2 := h.g
 have h3 := h.o
 have h4 := h.n
 have h5 := h.w
 refine ⟨by omega, by omega, by omega, ?_, ?_⟩
 ·rw [Pm.n_e, ← Prd.n_e1, e4, Prd.n_e1]; exact h4
 ·rw [← Prd.w1_e, e4, Prd.w1_e]; exact h5
end Go.Proofs.Ytfambadamebjjaa
namespace Go.Proofs.Ytfambadamebjjaa
open Go.RowKit
set_option linter.unusedVariables false
def Able (s : ByteArray) (t : Tb) : Prop := s.size ≤ 1500 ∧ RightG [t] ∧ fewG [t] = true ∧ ∃ Q, parseL s = .ok Q ∧ Q.table = t.n ∧ ∀ y : Qm, y.e.e = Q.e → SmpQ t.l y
def LQIs (s : ByteArray) (t : Tb) (w : World) (e : Ending) (w' : World) : Prop :=
 w.grownBy w' none ∧ ∃ y : Qm, (e = .returned (.tuple #[.agg y.c, .bool false]) ∧ ¬ Able s t) ∨
  (e = .returned (.tuple #[.agg y.c, .bool true]) ∧ RightG [t] ∧ fewG [t] = true ∧ predC t.l y.cond.e = 0 ∧ QmS (fun j => w.heap.size ≤ j) w' y ∧ ∃ Q, parseL s = .ok Q ∧ Red Q ∧ y.cond.e.e = Q.cond.e)
theorem TabsAt.one {B : Nat} {w : World} {b : Nat} {t : Tb} {T : TypeId} (h : w.heap[b]? = some (.cells #[.string t.n, .slice t.a t.l.length t.cap, .int .i64 t.k] T (0, 0))) (hb : b < B) (hc : ColsAt B w t.a t.l) : TabsAt B w (some ⟨b, 0, none⟩) [t] := by
 refine ⟨by simp, fun x hx => by rw [List.mem_singleton.1 hx]; exact hc, .inr ⟨b, 0, rfl, hb, fun i hi => ?_⟩⟩
 obtain rfl : i = 0 := by simp at hi; omega
 exact ⟨cell_of_row _ _ 0 _ _ _ h, cell_of_row _ _ 1 _ _ _ h, cell_of_row _ _ 2 _ _ _ h⟩
theorem lparse_any (s : ByteArray) (w : World) (hsz : s.size ≤ 1510) : Calls Try.prog 13 #[.string s] w (RParseIs s w) := by
 cases hl : lexL s with
 | error e => exact rparse_bad s w hsz e.1 e.2 hl
 | ok T => exact rparse_ok s w hsz T hl
set_option maxRecDepth 100000 in
set_option maxHeartbeats 12800000 in
theorem lawQuery_any (s : ByteArray) (t : Tb) (w : World) (hC : ColsAt w.heap.size w t.a t.l) (hcap : t.l.length ≤ t.cap) (hN : t.n.size ≤ 9223372036854775807 ∧ ∀ i, i < t.l.length → (t.l.getD i default).n.size ≤ 9223372036854775807) :
  Calls Try.prog 6 #[.string s, .agg #[.string t.n, .slice t.a t.l.length t.cap, .int .i64 t.k]] w (LQIs s t w) := by
 have HG := Lib.hid (fun W (hW : w.grownBy W none) => (goodS_any (some ⟨W.heap.size, 0, none⟩) 1 [t] (W.alloc (.cells #[.string t.n, .slice t.a t.l.length t.cap, .int .i64 t.k] 24)) (TabsAt.one (heap_alloc_new W _) (by simp) ((hC.keep (hW.trans (World.grownBy_alloc W (.cells #[.string t.n, .slice t.a t.l.length t.cap, .int .i64 t.k] 24) none)) (by simp)).mono (by have := hW.size; simp; omega))) (Nat.le_refl _) (by simpa using hcap) (by simpa using hN)))
 have HK := Lib.hid (fun (y : Qm) (Q : Qry) (hp : parseL s = .ok Q) (he : y.e.e = Q.e) (hr : RightG [t]) W (hW : w.grownBy W none) (hS : QmS (fun j => w.heap.size + 1 < j) W y) =>
  refCheck_any (some ⟨W.heap.size, 0, none⟩) 1 [t] (fun j => w.heap.size + 1 < j) y (W.alloc (.cells #[.string t.n, .slice t.a t.l.length t.cap, .int .i64 t.k] 24)) (TabsAt.one (heap_alloc_new W _) (by simp) ((hC.keep (hW.trans (World.grownBy_alloc W (.cells #[.string t.n, .slice t.a t.l.length t.cap, .int .i64 t.k] 24) none)) (by simp)).mono (by have := hW.size; simp; omega))) (fun x hx => by
    have h8 := ((hr 0 (by simp)).1.2.2)
    rw [List.mem_singleton.1 hx]
    have : t.l.length ≤ 8 := h8
    omega) (hS.keep (.of (World.grownBy_alloc W _ none))) (by have := ((parseL_red hp).of he).1; omega) (by have := ((parseL_red hp).of he).2.1; omega) (by have := ((parseL_red hp).of he).2.2.1; omega) (by have := ((parseL_red hp).of he).2.2.2.1; omega) ((parseL_red hp).of he).2.2.2.2)
 have HP := Lib.hid (fun W (h : s.size ≤ 1500) => lparse_any s W (by omega))
 obtain ⟨tn, ta, tc, tl, tk⟩ := t
 dsimp only at HG HK ⊢
 clear hC hcap hN
 have G0 := Lib.hid (World.grownBy_alloc w (.cells #[.string tn, .slice ta tl.length tc, .int .i64 tk] 24) none)
 have B0 := heap_alloc_new w (.cells #[.string tn, .slice ta tl.length tc, .int .i64 tk] 24)
 have G1 := Lib.hid (World.grownBy_alloc (w.alloc (.cells #[.string tn, .slice ta tl.length tc, .int .i64 tk] 24)) (.cells (Qm.z 0).c 37) none)
 have R1 := heap_alloc_new (w.alloc (.cells #[.string tn, .slice ta tl.length tc, .int .i64 tk] 24)) (.cells (Qm.z 0).c 37)
 rw [show (w.alloc (.cells #[.string tn, .slice ta tl.length tc, .int .i64 tk] 24)).heap.size = w.heap.size + 1 by simp] at R1
 obtain ⟨W1, hW1⟩ : ∃ W1, W1 = (w.alloc (.cells #[.string tn, .slice ta tl.length tc, .int .i64 tk] 24)).alloc (.cells (Qm.z 0).c 37) := ⟨_, rfl⟩
 have GW : Hid (w.grownBy W1 none) := Lib.hid (by rw [hW1]; exact G0.out.trans G1.out)
 have BW : Hid (W1.heap[w.heap.size]? = some (.cells #[.string tn, .slice ta tl.length tc, .int .i64 tk] 24 (0, 0))) := Lib.hid (by rw [hW1]; exact blk_grown G1.out B0)
 have RW : Hid (W1.heap[w.heap.size + 1]? = some (.cells (Qm.z 0).c 37 (0, 0))) := Lib.hid (by rw [hW1]; exact R1)
 clear B0 R1 G0 G1
 obtain ⟨m, hm⟩ : ∃ m, m = tl.length := ⟨_, rfl⟩
 have Hm := Lib.hid hm
 rw [← hm] at BW HG HK hW1 ⊢
 clear hm
 go_enter Try.func6, Try.ntmps6
 go_upto_region 1 with fail
 change Code.wp _ _ _ _ ((w.alloc (.cells #[.string tn, .slice ta m tc, .int .i64 tk] 24)).alloc (.cells (Qm.z 0).c 37))
 rw [← hW1]
 clear hW1
 obtain ⟨⟨t0, t1, t2⟩, _, _, _⟩ := boxD3 BW.out
 by_cases hz : (1500 : Int) < s.size
 ·have HF : Hid (LQIs s ⟨tn, ta, tc, tl, tk⟩ w (.returned (.tuple #[.agg (Qm.z 0).c, .bool false])) (W1.setRow (w.heap.size + 1) (Qm.z 0).c)) := Lib.hid ⟨grown_thenX GW.out (grown_setRow _ _ _) (fun j e => by cases e; omega), Qm.z 0, .inl ⟨rfl, fun h => by have := h.1; omega⟩⟩
  have hB := setRow_heap _ (w.heap.size + 1) (Qm.z 0).c (Qm.z 0).c _ _ RW.out
  have HB := Lib.hid hB
  clear hB
  go_wp2_with (refine wpList_store_row rfl 37 (.tmp 4) (.tmp 21) rfl (w.heap.size + 1) (Qm.z 0).c (by rfl) (by rfl) 37 (Qm.z 0).c RW.out (by rw [Qm.c_size]; exact query_size) (by rfl) (Qm.c_all _) ?_)
  exact bodyPost_ret (v := .tuple #[.agg (Qm.z 0).c, .bool false]) (results_qm2 (p := 4) (u := 5) rfl _ _ (w.heap.size + 1) (Qm.z 0) rfl HB.out) rfl HF.out
 ·have Hsz : Hid (s.size ≤ 1500) := Lib.hid (by omega)
  go_wp2_with fail
  refine (HG.out _ GW.out).mono ?_
  rintro e w2 ⟨⟨b, rfl, hb⟩, hg⟩
  have g2 := (World.grownBy_alloc W1 (.cells #[.string tn, .slice ta m tc, .int .i64 tk] 24) none).trans hg
  have G2 := Lib.hid (GW.out.trans g2)
  have B2 := Lib.hid (blk_grown g2 BW.out)
  have R2 := Lib.hid (blk_grown g2 RW.out)
  have HB1 := Lib.hid hb
  clear hb hg g2 GW BW RW HG t0 t1 t2 hz
  cases b with
  | false =>
   have HF : Hid (LQIs s ⟨tn, ta, tc, tl, tk⟩ w (.returned (.tuple #[.agg (Qm.z 0).c, .bool false])) (w2.setRow (w.heap.size + 1) (Qm.z 0).c)) := Lib.hid ⟨grown_thenX G2.out (grown_setRow _ _ _) (fun j e => by cases e; omega), Qm.z 0, .inl ⟨rfl, fun h => by have := HB1.out.2 ⟨h.2.1, h.2.2.1⟩; cases this⟩⟩
   have HB := Lib.hid (setRow_heap _ (w.heap.size + 1) (Qm.z 0).c (Qm.z 0).c _ _ R2.out)
   go_wp2_with (refine wpList_store_row rfl 37 (.tmp 4) (.tmp 21) rfl (w.heap.size + 1) (Qm.z 0).c (by rfl) (by rfl) 37 (Qm.z 0).c R2.out (by rw [Qm.c_size]; exact query_size) (by rfl) (Qm.c_all _) ?_)
   exact bodyPost_ret (v := .tuple #[.agg (Qm.z 0).c, .bool false]) (results_qm2 (p := 4) (u := 5) rfl _ _ (w.heap.size + 1) (Qm.z 0) rfl HB.out) rfl HF.out
  | true =>
   have HR := Lib.hid (HB1.out.1 rfl)
   have HPp := Lib.hid (HP.out w2 Hsz.out)
   clear HB1 HP
   go_wp2_with fail
   refine HPp.out.mono ?_
   rintro e w3 hr
   have B5 := Lib.hid (heap_alloc_new w3 (.cells (Qm.z 0).c 37))
   have HM : Hid (∀ (x : Qm), w3.grownBy ((w3.alloc (.cells (Qm.z 0).c 37)).setRow w3.heap.size x.c) none ∧ ((w3.alloc (.cells (Qm.z 0).c 37)).setRow w3.heap.size x.c).heap[w3.heap.size]? = some (.cells x.c 37 (0, 0))) := Lib.hid fun x =>
    ⟨grown_thenX (World.grownBy_alloc w3 (.cells (Qm.z 0).c 37) none) (grown_setRow _ w3.heap.size x.c) (fun j e => by cases e; exact Nat.le_refl _), setRow_heap _ _ (Qm.z 0).c x.c _ _ (heap_alloc_new w3 _)⟩
   rcases hr with ⟨y, Q, hp, rfl, he, hyS, hg⟩ | ⟨p, c, e', hp, hc, rfl, hg⟩
   ·have HM1 := HM.out y
    obtain ⟨W3, hW3⟩ : ∃ W3, W3 = (w3.alloc (.cells (Qm.z 0).c 37)).setRow w3.heap.size y.c := ⟨_, rfl⟩
    rw [← hW3] at HM1
    have g3 := hg.trans HM1.1
    have G3 := Lib.hid (G2.out.trans g3)
    have R3 := Lib.hid (blk_grown g3 R2.out)
    have T3 := Lib.hid (blk_grown g3 B2.out)
    have Q3 := Lib.hid HM1.2
    have hs2 := G2.out.size
    have hr2 := (Array.getElem?_eq_some_iff.1 R2.out).1
    have Y3 : Hid (QmS (fun j => w.heap.size + 1 < j) W3 y) := Lib.hid ((hyS.mono (fun j _ hj => by omega)).keep (.of HM1.1))
    have HKy := Lib.hid (HK.out y Q hp he HR.out.1 W3 G3.out Y3.out)
    have HPE := Lib.hid (And.intro hp he)
    obtain ⟨⟨t0, t1, t2⟩, _, _, _⟩ := boxD3 T3.out
    clear hp he hyS hg HM HM1 HK HPp g3 B2 R2
    go_upto_region 4 with (refine wpList_store_row rfl 37 (.tmp 6) (.tmp 25) rfl w3.heap.size y.c rfl rfl 37 (Qm.z 0).c B5.out (by rw [Qm.c_size]; exact query_size) (by rw [Qm.c_size, Qm.c_size]) (Qm.c_all _) ?_)
    change Code.wp _ _ _ _ ((w3.alloc (.cells (Qm.z 0).c 37)).setRow w3.heap.size y.c)
    rw [← hW3]
    clear hW3 B5
    go_wp2_with (refine wpList_load_row rfl 37 (.tmp 6) rfl w3.heap.size rfl 37 y.c (0, 0) _ Q3.out Try.underlying37 rfl (by rw [Qm.c_size]; exact query_size) ?_)
    refine (HKy.out).mono ?_
    rintro e w5 ⟨hg, hr⟩
    have g5 := (World.grownBy_alloc W3 (.cells #[.string tn, .slice ta m tc, .int .i64 tk] 24) none).trans hg
    have G5 := Lib.hid (G3.out.trans g5)
    have R5 := Lib.hid (blk_grown g5 R3.out)
    have hs3 := G3.out.size
    have hF : ∃ (y7 : Qm) (a7 c7 : Int), e = .returned (.tuple #[.agg y7.c, .int .i64 a7, .int .i64 c7]) ∧ ∀ W, w5.grownBy W (some (w.heap.size + 1)) → w.grownBy W none → LQIs s ⟨tn, ta, tc, tl, tk⟩ w (.returned (.tuple #[.agg y7.c, .bool (c7 == 0)])) W := by
     rcases hr with ⟨a7, c7, hc, hn, rfl⟩ | ⟨i, hi, hf, hn, hz, y', rfl, hy, hS⟩
     ·refine ⟨Qm.z 0, a7, c7, rfl, fun W _ hW => ⟨hW, Qm.z 0, .inl ⟨by rw [beq_eq_false_iff_ne.2 hc], fun h => ?_⟩⟩⟩
      obtain ⟨_, _, _, Q', hq, ht, hs⟩ := h
      have : Q' = Q := by have := hq.symm.trans HPE.out.1; cases this; rfl
      subst this
      refine hn 0 (by simp) (fun j hj => by omega) ?_ (hs y HPE.out.2)
      have := congrArg Qry.table HPE.out.2
      exact ht.symm.trans this.symm
     ·refine ⟨y', 0, 0, rfl, fun W h5 hW => ⟨hW, y', .inr ⟨rfl, HR.out.1, HR.out.2, ?_, ?_, Q, HPE.out.1, parseL_red HPE.out.1, ?_⟩⟩⟩
      ·obtain rfl : i = 0 := by simp at hi; omega
       rcases hy with ⟨_, rfl⟩ | ⟨a, c, _, rfl⟩
       ·exact hz
       ·exact hz
      ·have hl3 := (Array.getElem?_eq_some_iff.1 R3.out).1
       exact (((hS.mono (S' := fun j => w.heap.size + 1 < j) (fun j _ hj => hj.elim id (fun e => by simp at e; omega))).keep (.of_grown2 h5 (fun j hj => by omega))).mono (fun j _ hj => by omega))
      ·have := congrArg Qry.cond HPE.out.2
       rcases hy with ⟨_, rfl⟩ | ⟨a, c, _, rfl⟩
       ·exact this
       ·exact this
    clear hr hg g5 HKy HPE
    obtain ⟨y7, a7, c7, rfl, hF⟩ := hF
    have HF := Lib.hid hF
    have hs5 := G5.out.size
    have B6 := Lib.hid (heap_alloc_new w5 (.cells (Qm.z 0).c 37))
    have HM : Hid (w5.grownBy ((w5.alloc (.cells (Qm.z 0).c 37)).setRow w5.heap.size y7.c) none ∧ ((w5.alloc (.cells (Qm.z 0).c 37)).setRow w5.heap.size y7.c).heap[w5.heap.size]? = some (.cells y7.c 37 (0, 0))) := Lib.hid
     ⟨grown_thenX (World.grownBy_alloc w5 (.cells (Qm.z 0).c 37) none) (grown_setRow _ w5.heap.size y7.c) (fun j e => by cases e; exact Nat.le_refl _), setRow_heap _ _ (Qm.z 0).c y7.c _ _ (heap_alloc_new w5 _)⟩
    obtain ⟨W5, hW5⟩ : ∃ W5, W5 = (w5.alloc (.cells (Qm.z 0).c 37)).setRow w5.heap.size y7.c := ⟨_, rfl⟩
    rw [← hW5] at HM
    have R7 := Lib.hid (blk_grown HM.out.1 R5.out)
    have G7 := Lib.hid (G5.out.trans HM.out.1)
    have Q7 := Lib.hid HM.out.2
    have gs := grown_setRow W5 (w.heap.size + 1) y7.c
    have HX := Lib.hid (HF.out (W5.setRow (w.heap.size + 1) y7.c) ⟨gs.os.trans HM.out.1.os, gs.tape.trans HM.out.1.tape, gs.output.trans HM.out.1.output, Nat.le_trans HM.out.1.size gs.size, fun k hk hne => (gs.block k (Nat.lt_of_lt_of_le hk HM.out.1.size) hne).trans (HM.out.1.block k hk (by simp))⟩ (grown_thenX G7.out gs (fun j e => by cases e; omega)))
    have HB := Lib.hid (setRow_heap W5 (w.heap.size + 1) (Qm.z 0).c y7.c _ _ R7.out)
    clear hF t0 t1 t2 HM gs HF
    go_upto_region 7 with (refine wpList_store_row rfl 37 (.tmp 9) (.tmp 36) rfl w5.heap.size y7.c rfl rfl 37 (Qm.z 0).c B6.out (by rw [Qm.c_size]; exact query_size) (by rw [Qm.c_size, Qm.c_size]) (Qm.c_all _) ?_)
    change Code.wp _ _ _ _ ((w5.alloc (.cells (Qm.z 0).c 37)).setRow w5.heap.size y7.c)
    rw [← hW5]
    clear hW5 B6
    go_wp2_with (first
     | (refine wpList_load_row rfl 37 (.tmp 9) rfl w5.heap.size rfl 37 y7.c (0, 0) _ Q7.out Try.underlying37 rfl (by rw [Qm.c_size]; exact query_size) ?_)
     | (refine wpList_store_row rfl 37 (.tmp 4) (.tmp 39) rfl (w.heap.size + 1) y7.c (by rfl) (by rfl) 37 (Qm.z 0).c R7.out (by rw [Qm.c_size]; exact query_size) (by rw [Qm.c_size, Qm.c_size]) (Qm.c_all _) ?_))
    exact bodyPost_ret (v := .tuple #[.agg y7.c, .bool (c7 == 0)]) (results_qm2 (p := 4) (u := 5) rfl _ _ (w.heap.size + 1) y7 rfl HB.out) rfl HX.out
   ·have HM1 := HM.out (Qm.z 0)
    obtain ⟨W3, hW3⟩ : ∃ W3, W3 = (w3.alloc (.cells (Qm.z 0).c 37)).setRow w3.heap.size (Qm.z 0).c := ⟨_, rfl⟩
    rw [← hW3] at HM1
    have g3 := hg.trans HM1.1
    have G3 := Lib.hid (G2.out.trans g3)
    have R3 := Lib.hid (blk_grown g3 R2.out)
    have Q3 := Lib.hid HM1.2
    have kz : ((c : Int) != 0) = true := by rw [bne_iff_ne]; omega
    have HX : Hid (LQIs s ⟨tn, ta, tc, tl, tk⟩ w (.returned (.tuple #[.agg (Qm.z 0).c, .bool false])) (W3.setRow (w.heap.size + 1) (Qm.z 0).c)) := Lib.hid ⟨grown_thenX G3.out (grown_setRow _ _ _) (fun j e => by cases e; omega), Qm.z 0, .inl ⟨rfl, fun h => by
     obtain ⟨_, _, _, Q', hq, _, _⟩ := h
     have := hq.symm.trans hp
     cases this⟩⟩
    have HB := Lib.hid (setRow_heap W3 (w.heap.size + 1) (Qm.z 0).c (Qm.z 0).c _ _ R3.out)
    clear hp hc hg HM HM1 HK HPp g3 B2 R2
    go_upto_region 4 with (refine wpList_store_row rfl 37 (.tmp 6) (.tmp 25) rfl w3.heap.size (Qm.z 0).c rfl rfl 37 (Qm.z 0).c B5.out (by rw [Qm.c_size]; exact query_size) (by rfl) (Qm.c_all _) ?_)
    change Code.wp _ _ _ _ ((w3.alloc (.cells (Qm.z 0).c 37)).setRow w3.heap.size (Qm.z 0).c)
    rw [← hW3]
    clear hW3 B5
    go_wp2_with (first
     | (refine wpList_load_row rfl 37 (.tmp 6) rfl w3.heap.size rfl 37 (Qm.z 0).c (0, 0) _ Q3.out Try.underlying37 rfl (by rw [Qm.c_size]; exact query_size) ?_)
     | (refine wpList_store_row rfl 37 (.tmp 4) (.tmp 30) rfl (w.heap.size + 1) (Qm.z 0).c (by rfl) (by rfl) 37 (Qm.z 0).c R3.out (by rw [Qm.c_size]; exact query_size) (by rfl) (Qm.c_all _) ?_))
    exact bodyPost_ret (v := .tuple #[.agg (Qm.z 0).c, .bool false]) (results_qm2 (p := 4) (u := 5) rfl _ _ (w.heap.size + 1) (Qm.z 0) rfl HB.out) rfl HX.out
end Go.Proofs.Ytfambadamebjjaa
namespace Go.Proofs.Ytfambadamebjjaa
open Go.RowKit
set_option linter.unusedVariables false
set_option linter.unusedSimpArgs false in
set_option maxRecDepth 100000 in
set_option maxHeartbeats 6400000 in
theorem refRow6_all (a ra : Option Addr) (cap rcap : Nat) (l : List Cl) (r : List Vv) (w : World) (h : ColsAt w.heap.size w a l) (hr : VvAt w.heap.size w ra r) (hcap : l.length ≤ cap) (hrc : r.length ≤ rcap) :
  Calls Try.prog 18 #[.slice a l.length cap, .slice ra r.length rcap] w fun e w' => (∃ b, e = .returned (.bool b) ∧ (b = true ↔ Fits l r)) ∧ w.grownBy w' none := by
 have H := Lib.hid h
 have HR := Lib.hid hr
 have hlen := h.1
 have hlen2 := hr.1
 obtain ⟨F, hF⟩ : ∃ F : Prop, F = Fits l r := ⟨_, rfl⟩
 have HF : Hid (F → ∀ i, i < l.length → holdsB (l.getD i default) (r.getD i default) = true) := Lib.hid (fun h => by rw [hF] at h; exact h.2)
 have HL : Hid (F → r.length = l.length) := Lib.hid (fun h => by rw [hF] at h; exact h.1)
 have HI : Hid (r.length = l.length → (∀ i, i < l.length → holdsB (l.getD i default) (r.getD i default) = true) → F) := Lib.hid (fun h1 h2 => by rw [hF]; exact ⟨h1, h2⟩)
 rw [← hF]
 obtain ⟨n, hn⟩ : ∃ n, n = l.length := ⟨_, rfl⟩
 obtain ⟨rn, hrn⟩ : ∃ rn, rn = r.length := ⟨_, rfl⟩
 have Hn := Lib.hid hn
 have Hrn := Lib.hid hrn
 rw [← hn] at hlen hcap HF HI HL ⊢
 rw [← hrn] at hlen2 hrc HI HL ⊢
 clear h hr hn hrn hF
 go_enter Try.func18, Try.ntmps18
 by_cases he : rn = n
 ·have HE := Lib.hid he
  subst he
  have HI2 := Lib.hid (HI.out (by omega))
  clear HL HI
  go_wp2_with fail
  go_loopw [13] (fun i wr => ∃ (k : Nat), i = .int .i64 k ∧ k ≤ rn ∧ Hid (w.grownBy wr none) ∧ Hid (∀ j, j < k → holdsB (l.getD j default) (r.getD j default) = true)) (fun i _ => rn - (intOf i).toNat)
  case atStart => exact ⟨0, rfl, by omega, Lib.hid (grown_refl6 _ _), Lib.hid (fun j hj => by omega)⟩
  case round =>
   obtain ⟨k, rfl, hk, KR, HJ⟩ := hrel
   by_cases hlt : k < rn
   ·obtain ⟨b, off, rfl, _, c0, c1, c2⟩ := (H.out.keep KR.out (by simp)).at (i := k) (by rw [← Hn.out]; exact hlt)
    obtain ⟨b2, off2, rfl, hb2, v0, v1, v2⟩ := (HR.out.keep KR.out (by simp)).at (i := k) (by rw [← Hrn.out]; exact hlt)
    have HX : Hid (F → holdsB (l.getD k default) (r.getD k default) = true) := Lib.hid (fun h => HF.out h k hlt)
    have HJ3 : Hid (holdsB (l.getD k default) (r.getD k default) = true → ∀ j, j < k + 1 → holdsB (l.getD j default) (r.getD j default) = true) := Lib.hid (fun hx j hj => by
     by_cases e : j = k
     ·rw [e]; exact hx
     ·exact HJ.out j (by omega))
    generalize l.getD k default = x at *
    generalize r.getD k default = y at *
    obtain ⟨xn, xk, xb⟩ := x
    obtain ⟨yk, yn, ys⟩ := y
    simp only at c0 c1 c2 v0 v1 v2
    have HG := Lib.hid (fun W => refGood_any yk yn ys W)
    have j0 : (0 : Int) ≤ k := by omega
    have j1 : (k : Int) ≤ cap := by omega
    have j2 : (k : Int) ≤ rcap := by omega
    have j3 : (k : Int) < rn := by omega
    have FS := Lib.hid (fun W (hW : wr.grownBy W none) => show (W.cell? ⟨b2, off2 + k * 3, none⟩ = some (.int .i64 yk) ∧ W.cell? ⟨b2, off2 + k * 3 + 1, none⟩ = some (.int .i64 yn) ∧ W.cell? ⟨b2, off2 + k * 3 + 2, none⟩ = some (.string ys)) ∧ W.cell? ⟨b, off + k * 3 + 1, none⟩ = some (.int .i64 xk) ∧ W.cell? ⟨b, off + k * 3 + 2, none⟩ = some (.bool xb) from ⟨⟨hW.cell v0 (by simp), hW.cell v1 (by simp), hW.cell v2 (by simp)⟩, hW.cell c1 (by simp), hW.cell c2 (by simp)⟩)
    clear c0 c1 c2 v0 v1 v2 HF HI2 HJ
    go_upto_region 6 with fail
    obtain ⟨gd, hgd⟩ : ∃ gd, goodB yk yn ys = gd := ⟨_, rfl⟩
    cases gd with
    | false =>
     rw [hgd] at HG
     have HNo : Hid (¬ holdsB ⟨xn, xk, xb⟩ ⟨yk, yn, ys⟩ = true) := Lib.hid (fun h => by have := (holdsB_two h).1; simp only at this; rw [hgd] at this; cases this)
     clear hgd HJ3
     refine wp_region_held_drew (S := (fun W => Hid ((W.cell? ⟨b2, off2 + k * 3, none⟩ = some (.int .i64 yk) ∧ W.cell? ⟨b2, off2 + k * 3 + 1, none⟩ = some (.int .i64 yn) ∧ W.cell? ⟨b2, off2 + k * 3 + 2, none⟩ = some (.string ys)) ∧ W.cell? ⟨b, off + k * 3 + 1, none⟩ = some (.int .i64 xk) ∧ W.cell? ⟨b, off + k * 3 + 2, none⟩ = some (.bool xb)))) (by kernel_rfl) (Lib.hid (FS.out _ (grown_drew6 (grown_refl6 wr none)))) (fun hHeld => ?_)
     refine TKB (i := 0) (v := ?vaz) rfl ?yaz ?raz
     case yaz => (intro w hSw; (try dsimp only at hSw); go_simp; try with_reducible rfl)
     simp only [Act.put, List.getElem_toArray, List.getElem_cons_zero, List.size_toArray, List.length_cons, List.length_nil, Nat.reduceAdd, Array.replicate, List.replicate, List.setIfInBounds_toArray, List.set_cons_zero, List.set_cons_succ]
     refine TKB (i := 1) (v := ?vbz) rfl ?ybz ?rbz
     case ybz => (intro w hSw; (try dsimp only at hSw); go_simp; try with_reducible rfl)
     simp only [Act.put, List.getElem_toArray, List.getElem_cons_succ, List.getElem_cons_zero, List.setIfInBounds_toArray, List.set_cons_zero, List.set_cons_succ]
     refine TKB (i := 2) (v := ?vcz) rfl ?ycz ?rcz
     case ycz => (intro w hSw; (try dsimp only at hSw); go_simp; (try rw [if_pos ⟨j0, j3⟩]); try with_reducible rfl)
     simp only [Act.put, List.getElem_toArray, List.getElem_cons_succ, List.getElem_cons_zero, List.setIfInBounds_toArray, List.set_cons_zero, List.set_cons_succ]
     refine TKB (i := 3) (v := ?vdz) rfl ?ydz ?rdz
     case ydz => (intro w hSw; obtain ⟨⟨q0, q1, q2⟩, q3, q4⟩ := hSw.out; clear hSw; go_simp; try with_reducible rfl)
     simp only [Act.put, List.getElem_toArray, List.getElem_cons_succ, List.getElem_cons_zero, List.setIfInBounds_toArray, List.set_cons_zero, List.set_cons_succ]
     refine RD1 (i := 4) rfl (fun K' hK => ?_)
     go_simp
     go_at_call 44
     refine (HG.out _).mono ?_
     rintro e w4 ⟨rfl, hg4⟩
     have K4 := Lib.hid ((grown_drew6 (grown_refl6 wr none)).trans (grown_below6 hg4 none))
     clear hg4
     refine hK.out _ _ (Lib.hid (FS.out _ K4.out)) (fun hHeld => ?_)
     clear hK K'
     simp only [List.setIfInBounds_toArray, List.set_cons_zero, List.set_cons_succ]
     refine TKB (i := 5) (v := ?vez) rfl ?yez ?rez
     case yez => (intro w hSw; (try dsimp only at hSw); go_simp; try with_reducible rfl)
     simp only [Act.put, List.getElem_toArray, List.getElem_cons_succ, List.getElem_cons_zero, List.setIfInBounds_toArray, List.set_cons_zero, List.set_cons_succ]
     refine TKB (i := 6) (v := ?vfz) rfl ?yfz ?rfz
     case yfz => (intro w hSw; (try dsimp only at hSw); go_simp; try with_reducible rfl)
     simp only [Act.put, List.getElem_toArray, List.getElem_cons_succ, List.getElem_cons_zero, List.setIfInBounds_toArray, List.set_cons_zero, List.set_cons_succ]
     refine TKU (i := 7) rfl ?_
     simp only [Act.put, List.getElem_toArray, List.getElem_cons_succ, List.getElem_cons_zero, List.setIfInBounds_toArray, List.set_cons_zero, List.set_cons_succ]
     refine TKU (i := 8) rfl ?_
     simp only [Act.put, List.getElem_toArray, List.getElem_cons_succ, List.getElem_cons_zero, List.setIfInBounds_toArray, List.set_cons_zero, List.set_cons_succ]
     refine TKU (i := 9) rfl ?_
     simp only [Act.put, List.getElem_toArray, List.getElem_cons_succ, List.getElem_cons_zero, List.setIfInBounds_toArray, List.set_cons_zero, List.set_cons_succ]
     refine TKU (i := 10) rfl ?_
     simp only [Act.put, List.getElem_toArray, List.getElem_cons_succ, List.getElem_cons_zero, List.setIfInBounds_toArray, List.set_cons_zero, List.set_cons_succ]
     refine TKU (i := 11) rfl ?_
     simp only [Act.put, List.getElem_toArray, List.getElem_cons_succ, List.getElem_cons_zero, List.setIfInBounds_toArray, List.set_cons_zero, List.set_cons_succ]
     refine TKU (i := 12) rfl ?_
     simp only [Act.put, List.getElem_toArray, List.getElem_cons_succ, List.getElem_cons_zero, List.setIfInBounds_toArray, List.set_cons_zero, List.set_cons_succ]
     refine TKU (i := 13) rfl ?_
     simp only [Act.put, List.getElem_toArray, List.getElem_cons_succ, List.getElem_cons_zero, List.setIfInBounds_toArray, List.set_cons_zero, List.set_cons_succ]
     refine TKU (i := 14) rfl ?_
     simp only [Act.put, List.getElem_toArray, List.getElem_cons_succ, List.getElem_cons_zero, List.setIfInBounds_toArray, List.set_cons_zero, List.set_cons_succ]
     refine TKU (i := 15) rfl ?_
     simp only [Act.put, List.getElem_toArray, List.getElem_cons_succ, List.getElem_cons_zero, List.setIfInBounds_toArray, List.set_cons_zero, List.set_cons_succ]
     refine TKU (i := 16) rfl ?_
     simp only [Act.put, List.getElem_toArray, List.getElem_cons_succ, List.getElem_cons_zero, List.setIfInBounds_toArray, List.set_cons_zero, List.set_cons_succ]
     refine TKU (i := 17) rfl ?_
     simp only [Act.put, List.getElem_toArray, List.getElem_cons_succ, List.getElem_cons_zero, List.setIfInBounds_toArray, List.set_cons_zero, List.set_cons_succ]
     refine TKU (i := 18) rfl ?_
     simp only [Act.put, List.getElem_toArray, List.getElem_cons_succ, List.getElem_cons_zero, List.setIfInBounds_toArray, List.set_cons_zero, List.set_cons_succ]
     refine TKU (i := 19) rfl ?_
     simp only [Act.put, List.getElem_toArray, List.getElem_cons_succ, List.getElem_cons_zero, List.setIfInBounds_toArray, List.set_cons_zero, List.set_cons_succ]
     refine TKU (i := 20) rfl ?_
     simp only [Act.put, List.getElem_toArray, List.getElem_cons_succ, List.getElem_cons_zero, List.setIfInBounds_toArray, List.set_cons_zero, List.set_cons_succ]
     refine TKU (i := 21) rfl ?_
     simp only [Act.put, List.getElem_toArray, List.getElem_cons_succ, List.getElem_cons_zero, List.setIfInBounds_toArray, List.set_cons_zero, List.set_cons_succ]
     refine TKU (i := 22) rfl ?_
     simp only [Act.put, List.getElem_toArray, List.getElem_cons_succ, List.getElem_cons_zero, List.setIfInBounds_toArray, List.set_cons_zero, List.set_cons_succ]
     refine TKU (i := 23) rfl ?_
     simp only [Act.put, List.getElem_toArray, List.getElem_cons_succ, List.getElem_cons_zero, List.setIfInBounds_toArray, List.set_cons_zero, List.set_cons_succ]
     refine TKU (i := 24) rfl ?_
     simp only [Act.put, List.getElem_toArray, List.getElem_cons_succ, List.getElem_cons_zero, List.setIfInBounds_toArray, List.set_cons_zero, List.set_cons_succ]
     refine TKU (i := 25) rfl ?_
     simp only [Act.put, List.getElem_toArray, List.getElem_cons_succ, List.getElem_cons_zero, List.setIfInBounds_toArray, List.set_cons_zero, List.set_cons_succ]
     refine TKU (i := 26) rfl ?_
     simp only [Act.put, List.getElem_toArray, List.getElem_cons_succ, List.getElem_cons_zero, List.setIfInBounds_toArray, List.set_cons_zero, List.set_cons_succ]
     refine TKU (i := 27) rfl ?_
     simp only [Act.put, List.getElem_toArray, List.getElem_cons_succ, List.getElem_cons_zero, List.setIfInBounds_toArray, List.set_cons_zero, List.set_cons_succ]
     refine TKU (i := 28) rfl ?_
     simp only [Act.put, List.getElem_toArray, List.getElem_cons_succ, List.getElem_cons_zero, List.setIfInBounds_toArray, List.set_cons_zero, List.set_cons_succ]
     refine TKU (i := 29) rfl ?_
     simp only [Act.put, List.getElem_toArray, List.getElem_cons_succ, List.getElem_cons_zero, List.setIfInBounds_toArray, List.set_cons_zero, List.set_cons_succ]
     refine TKU (i := 30) rfl ?_
     simp only [Act.put, List.getElem_toArray, List.getElem_cons_succ, List.getElem_cons_zero, List.setIfInBounds_toArray, List.set_cons_zero, List.set_cons_succ]
     refine TKU (i := 31) rfl ?_
     simp only [Act.put, List.getElem_toArray, List.getElem_cons_succ, List.getElem_cons_zero, List.setIfInBounds_toArray, List.set_cons_zero, List.set_cons_succ]
     refine TKU (i := 32) rfl ?_
     simp only [Act.put, List.getElem_toArray, List.getElem_cons_succ, List.getElem_cons_zero, List.setIfInBounds_toArray, List.set_cons_zero, List.set_cons_succ]
     refine TKU (i := 33) rfl ?_
     simp only [Act.put, List.getElem_toArray, List.getElem_cons_succ, List.getElem_cons_zero, List.setIfInBounds_toArray, List.set_cons_zero, List.set_cons_succ]
     refine TKB (i := 34) (v := ?vgz) rfl ?ygz ?rgz
     case ygz => (intro w hSw; (try dsimp only at hSw); go_simp; try with_reducible rfl)
     simp only [Act.put, List.getElem_toArray, List.getElem_cons_succ, List.getElem_cons_zero, List.setIfInBounds_toArray, List.set_cons_zero, List.set_cons_succ]
     refine wpAnyH_done (by kernel_rfl) ?_ _
     go_wp2_with fail
     go_ret
     exact ⟨⟨false, rfl, ⟨fun h => (by cases h), fun h => absurd (HX.out h) HNo.out⟩⟩, KR.out.trans K4.out⟩
    | true =>
     rw [hgd] at HG
     obtain ⟨pd, hp⟩ : ∃ pd, (yk != xk) = pd := ⟨_, rfl⟩
     cases pd with
     | false =>
      have HJ2 := Lib.hid (HJ3.out (by
       unfold holdsB Vv.good
       simp only [Bool.and_eq_true, Bool.or_eq_true, decide_eq_true_eq]
       exact ⟨hgd, .inl (by simpa using hp)⟩))
      clear hgd HJ3 HX
      refine wp_region_held_drew (S := (fun W => Hid ((W.cell? ⟨b2, off2 + k * 3, none⟩ = some (.int .i64 yk) ∧ W.cell? ⟨b2, off2 + k * 3 + 1, none⟩ = some (.int .i64 yn) ∧ W.cell? ⟨b2, off2 + k * 3 + 2, none⟩ = some (.string ys)) ∧ W.cell? ⟨b, off + k * 3 + 1, none⟩ = some (.int .i64 xk) ∧ W.cell? ⟨b, off + k * 3 + 2, none⟩ = some (.bool xb)))) (by kernel_rfl) (Lib.hid (FS.out _ (grown_drew6 (grown_refl6 wr none)))) (fun hHeld => ?_)
      refine TKB (i := 0) (v := ?vhz) rfl ?yhz ?rhz
      case yhz => (intro w hSw; (try dsimp only at hSw); go_simp; try with_reducible rfl)
      simp only [Act.put, List.getElem_toArray, List.getElem_cons_zero, List.size_toArray, List.length_cons, List.length_nil, Nat.reduceAdd, Array.replicate, List.replicate, List.setIfInBounds_toArray, List.set_cons_zero, List.set_cons_succ]
      refine TKB (i := 1) (v := ?viz) rfl ?yiz ?riz
      case yiz => (intro w hSw; (try dsimp only at hSw); go_simp; try with_reducible rfl)
      simp only [Act.put, List.getElem_toArray, List.getElem_cons_succ, List.getElem_cons_zero, List.setIfInBounds_toArray, List.set_cons_zero, List.set_cons_succ]
      refine TKB (i := 2) (v := ?vjz) rfl ?yjz ?rjz
      case yjz => (intro w hSw; (try dsimp only at hSw); go_simp; (try rw [if_pos ⟨j0, j3⟩]); try with_reducible rfl)
      simp only [Act.put, List.getElem_toArray, List.getElem_cons_succ, List.getElem_cons_zero, List.setIfInBounds_toArray, List.set_cons_zero, List.set_cons_succ]
      refine TKB (i := 3) (v := ?vkz) rfl ?ykz ?rkz
      case ykz => (intro w hSw; obtain ⟨⟨q0, q1, q2⟩, q3, q4⟩ := hSw.out; clear hSw; go_simp; try with_reducible rfl)
      simp only [Act.put, List.getElem_toArray, List.getElem_cons_succ, List.getElem_cons_zero, List.setIfInBounds_toArray, List.set_cons_zero, List.set_cons_succ]
      refine RD1 (i := 4) rfl (fun K' hK => ?_)
      go_simp
      go_at_call 44
      refine (HG.out _).mono ?_
      rintro e w4 ⟨rfl, hg4⟩
      have K4 := Lib.hid ((grown_drew6 (grown_refl6 wr none)).trans (grown_below6 hg4 none))
      clear hg4
      refine hK.out _ _ (Lib.hid (FS.out _ K4.out)) (fun hHeld => ?_)
      clear hK K'
      simp only [List.setIfInBounds_toArray, List.set_cons_zero, List.set_cons_succ]
      refine TKB (i := 5) (v := ?vlz) rfl ?ylz ?rlz
      case ylz => (intro w hSw; (try dsimp only at hSw); go_simp; try with_reducible rfl)
      simp only [Act.put, List.getElem_toArray, List.getElem_cons_succ, List.getElem_cons_zero, List.setIfInBounds_toArray, List.set_cons_zero, List.set_cons_succ]
      refine TKB (i := 6) (v := ?vmz) rfl ?ymz ?rmz
      case ymz => (intro w hSw; (try dsimp only at hSw); go_simp; try with_reducible rfl)
      simp only [Act.put, List.getElem_toArray, List.getElem_cons_succ, List.getElem_cons_zero, List.setIfInBounds_toArray, List.set_cons_zero, List.set_cons_succ]
      refine TKB (i := 7) (v := ?vnz) rfl ?ynz ?rnz
      case ynz => (intro w hSw; (try dsimp only at hSw); go_simp; try with_reducible rfl)
      simp only [Act.put, List.getElem_toArray, List.getElem_cons_succ, List.getElem_cons_zero, List.setIfInBounds_toArray, List.set_cons_zero, List.set_cons_succ]
      refine TKB (i := 8) (v := ?voz) rfl ?yoz ?roz
      case yoz => (intro w hSw; (try dsimp only at hSw); go_simp; try with_reducible rfl)
      simp only [Act.put, List.getElem_toArray, List.getElem_cons_succ, List.getElem_cons_zero, List.setIfInBounds_toArray, List.set_cons_zero, List.set_cons_succ]
      refine TKB (i := 9) (v := ?vpz) rfl ?ypz ?rpz
      case ypz => (intro w hSw; (try dsimp only at hSw); go_simp; (try rw [if_pos ⟨j0, j3⟩]); try with_reducible rfl)
      simp only [Act.put, List.getElem_toArray, List.getElem_cons_succ, List.getElem_cons_zero, List.setIfInBounds_toArray, List.set_cons_zero, List.set_cons_succ]
      refine TKB (i := 10) (v := ?vqz) rfl ?yqz ?rqz
      case yqz => (intro w hSw; (try dsimp only at hSw); go_simp; try with_reducible rfl)
      simp only [Act.put, List.getElem_toArray, List.getElem_cons_succ, List.getElem_cons_zero, List.setIfInBounds_toArray, List.set_cons_zero, List.set_cons_succ]
      refine TKB (i := 11) (v := ?vrz) rfl ?yrz ?rrz
      case yrz => (intro w hSw; obtain ⟨⟨q0, q1, q2⟩, q3, q4⟩ := hSw.out; clear hSw; go_simp; try with_reducible rfl)
      simp only [Act.put, List.getElem_toArray, List.getElem_cons_succ, List.getElem_cons_zero, List.setIfInBounds_toArray, List.set_cons_zero, List.set_cons_succ]
      refine TKB (i := 12) (v := ?vsz) rfl ?ysz ?rsz
      case ysz => (intro w hSw; (try dsimp only at hSw); go_simp; try with_reducible rfl)
      simp only [Act.put, List.getElem_toArray, List.getElem_cons_succ, List.getElem_cons_zero, List.setIfInBounds_toArray, List.set_cons_zero, List.set_cons_succ]
      refine TKB (i := 13) (v := ?vtz) rfl ?ytz ?rtz
      case ytz => (intro w hSw; (try dsimp only at hSw); go_simp; try with_reducible rfl)
      simp only [Act.put, List.getElem_toArray, List.getElem_cons_succ, List.getElem_cons_zero, List.setIfInBounds_toArray, List.set_cons_zero, List.set_cons_succ]
      refine TKB (i := 14) (v := ?vuz) rfl ?yuz ?ruz
      case yuz => (intro w hSw; (try dsimp only at hSw); go_simp; (try rw [if_pos ⟨j0, j3⟩]); try with_reducible rfl)
      simp only [Act.put, List.getElem_toArray, List.getElem_cons_succ, List.getElem_cons_zero, List.setIfInBounds_toArray, List.set_cons_zero, List.set_cons_succ]
      refine TKB (i := 15) (v := ?vvz) rfl ?yvz ?rvz
      case yvz => (intro w hSw; (try dsimp only at hSw); go_simp; try with_reducible rfl)
      simp only [Act.put, List.getElem_toArray, List.getElem_cons_succ, List.getElem_cons_zero, List.setIfInBounds_toArray, List.set_cons_zero, List.set_cons_succ]
      refine TKB (i := 16) (v := ?vwz) rfl ?ywz ?rwz
      case ywz => (intro w hSw; obtain ⟨⟨q0, q1, q2⟩, q3, q4⟩ := hSw.out; clear hSw; go_simp; try with_reducible rfl)
      simp only [Act.put, List.getElem_toArray, List.getElem_cons_succ, List.getElem_cons_zero, List.setIfInBounds_toArray, List.set_cons_zero, List.set_cons_succ]
      refine TKB (i := 17) (v := ?vxz) rfl ?yxz ?rxz
      case yxz => (intro w hSw; (try dsimp only at hSw); go_simp; try with_reducible rfl)
      simp only [Act.put, List.getElem_toArray, List.getElem_cons_succ, List.getElem_cons_zero, List.setIfInBounds_toArray, List.set_cons_zero, List.set_cons_succ]
      refine TKB (i := 18) (v := ?vyz) rfl ?yyz ?ryz
      case yyz => (intro w hSw; (try dsimp only at hSw); go_simp; try with_reducible rfl)
      simp only [Act.put, List.getElem_toArray, List.getElem_cons_succ, List.getElem_cons_zero, List.setIfInBounds_toArray, List.set_cons_zero, List.set_cons_succ]
      refine TKU (i := 19) rfl ?_
      simp only [Act.put, List.getElem_toArray, List.getElem_cons_succ, List.getElem_cons_zero, List.setIfInBounds_toArray, List.set_cons_zero, List.set_cons_succ]
      refine TKU (i := 20) rfl ?_
      simp only [Act.put, List.getElem_toArray, List.getElem_cons_succ, List.getElem_cons_zero, List.setIfInBounds_toArray, List.set_cons_zero, List.set_cons_succ]
      refine TKU (i := 21) rfl ?_
      simp only [Act.put, List.getElem_toArray, List.getElem_cons_succ, List.getElem_cons_zero, List.setIfInBounds_toArray, List.set_cons_zero, List.set_cons_succ]
      refine TKU (i := 22) rfl ?_
      simp only [Act.put, List.getElem_toArray, List.getElem_cons_succ, List.getElem_cons_zero, List.setIfInBounds_toArray, List.set_cons_zero, List.set_cons_succ]
      refine TKU (i := 23) rfl ?_
      simp only [Act.put, List.getElem_toArray, List.getElem_cons_succ, List.getElem_cons_zero, List.setIfInBounds_toArray, List.set_cons_zero, List.set_cons_succ]
      refine TKU (i := 24) rfl ?_
      simp only [Act.put, List.getElem_toArray, List.getElem_cons_succ, List.getElem_cons_zero, List.setIfInBounds_toArray, List.set_cons_zero, List.set_cons_succ]
      refine TKU (i := 25) rfl ?_
      simp only [Act.put, List.getElem_toArray, List.getElem_cons_succ, List.getElem_cons_zero, List.setIfInBounds_toArray, List.set_cons_zero, List.set_cons_succ]
      refine TKU (i := 26) rfl ?_
      simp only [Act.put, List.getElem_toArray, List.getElem_cons_succ, List.getElem_cons_zero, List.setIfInBounds_toArray, List.set_cons_zero, List.set_cons_succ]
      refine TKU (i := 27) rfl ?_
      simp only [Act.put, List.getElem_toArray, List.getElem_cons_succ, List.getElem_cons_zero, List.setIfInBounds_toArray, List.set_cons_zero, List.set_cons_succ]
      refine TKU (i := 28) rfl ?_
      simp only [Act.put, List.getElem_toArray, List.getElem_cons_succ, List.getElem_cons_zero, List.setIfInBounds_toArray, List.set_cons_zero, List.set_cons_succ]
      refine TKU (i := 29) rfl ?_
      simp only [Act.put, List.getElem_toArray, List.getElem_cons_succ, List.getElem_cons_zero, List.setIfInBounds_toArray, List.set_cons_zero, List.set_cons_succ]
      refine TKU (i := 30) rfl ?_
      simp only [Act.put, List.getElem_toArray, List.getElem_cons_succ, List.getElem_cons_zero, List.setIfInBounds_toArray, List.set_cons_zero, List.set_cons_succ]
      refine TKU (i := 31) rfl ?_
      simp only [Act.put, List.getElem_toArray, List.getElem_cons_succ, List.getElem_cons_zero, List.setIfInBounds_toArray, List.set_cons_zero, List.set_cons_succ]
      refine TKU (i := 32) rfl ?_
      simp only [Act.put, List.getElem_toArray, List.getElem_cons_succ, List.getElem_cons_zero, List.setIfInBounds_toArray, List.set_cons_zero, List.set_cons_succ]
      refine TKB (i := 33) (v := ?vzz) rfl ?yzz ?rzz
      case yzz => (intro w hSw; (try dsimp only at hSw); go_simp; try with_reducible rfl)
      simp only [Act.put, List.getElem_toArray, List.getElem_cons_succ, List.getElem_cons_zero, List.setIfInBounds_toArray, List.set_cons_zero, List.set_cons_succ]
      refine TKB (i := 34) (v := ?v0z) rfl ?y0z ?r0z
      case y0z => (intro w hSw; (try dsimp only at hSw); go_simp; try with_reducible rfl)
      simp only [Act.put, List.getElem_toArray, List.getElem_cons_succ, List.getElem_cons_zero, List.setIfInBounds_toArray, List.set_cons_zero, List.set_cons_succ]
      refine wpAnyH_done (by kernel_rfl) ?_ _
      go_wp2_with fail
      go_roundw
      case rel => exact ⟨k + 1, by go_num, by omega, Lib.hid (KR.out.trans K4.out), HJ2⟩
      case measure => simp [intOf]; omega
     | true =>
      obtain ⟨qd, hq⟩ : ∃ qd, (yk != 0) = qd := ⟨_, rfl⟩
      cases qd with
      | true =>
       have HNo : Hid (¬ holdsB ⟨xn, xk, xb⟩ ⟨yk, yn, ys⟩ = true) := Lib.hid (fun h => by
        have := (holdsB_two h).2
        simp only at this
        rw [hp, hq] at this
        simp at this)
       clear hgd HJ3
       refine wp_region_held_drew (S := (fun W => Hid ((W.cell? ⟨b2, off2 + k * 3, none⟩ = some (.int .i64 yk) ∧ W.cell? ⟨b2, off2 + k * 3 + 1, none⟩ = some (.int .i64 yn) ∧ W.cell? ⟨b2, off2 + k * 3 + 2, none⟩ = some (.string ys)) ∧ W.cell? ⟨b, off + k * 3 + 1, none⟩ = some (.int .i64 xk) ∧ W.cell? ⟨b, off + k * 3 + 2, none⟩ = some (.bool xb)))) (by kernel_rfl) (Lib.hid (FS.out _ (grown_drew6 (grown_refl6 wr none)))) (fun hHeld => ?_)
       refine TKB (i := 0) (v := ?v1z) rfl ?y1z ?r1z
       case y1z => (intro w hSw; (try dsimp only at hSw); go_simp; try with_reducible rfl)
       simp only [Act.put, List.getElem_toArray, List.getElem_cons_zero, List.size_toArray, List.length_cons, List.length_nil, Nat.reduceAdd, Array.replicate, List.replicate, List.setIfInBounds_toArray, List.set_cons_zero, List.set_cons_succ]
       refine TKB (i := 1) (v := ?v2z) rfl ?y2z ?r2z
       case y2z => (intro w hSw; (try dsimp only at hSw); go_simp; try with_reducible rfl)
       simp only [Act.put, List.getElem_toArray, List.getElem_cons_succ, List.getElem_cons_zero, List.setIfInBounds_toArray, List.set_cons_zero, List.set_cons_succ]
       refine TKB (i := 2) (v := ?v3z) rfl ?y3z ?r3z
       case y3z => (intro w hSw; (try dsimp only at hSw); go_simp; (try rw [if_pos ⟨j0, j3⟩]); try with_reducible rfl)
       simp only [Act.put, List.getElem_toArray, List.getElem_cons_succ, List.getElem_cons_zero, List.setIfInBounds_toArray, List.set_cons_zero, List.set_cons_succ]
       refine TKB (i := 3) (v := ?v4z) rfl ?y4z ?r4z
       case y4z => (intro w hSw; obtain ⟨⟨q0, q1, q2⟩, q3, q4⟩ := hSw.out; clear hSw; go_simp; try with_reducible rfl)
       simp only [Act.put, List.getElem_toArray, List.getElem_cons_succ, List.getElem_cons_zero, List.setIfInBounds_toArray, List.set_cons_zero, List.set_cons_succ]
       refine RD1 (i := 4) rfl (fun K' hK => ?_)
       go_simp
       go_at_call 44
       refine (HG.out _).mono ?_
       rintro e w4 ⟨rfl, hg4⟩
       have K4 := Lib.hid ((grown_drew6 (grown_refl6 wr none)).trans (grown_below6 hg4 none))
       clear hg4
       refine hK.out _ _ (Lib.hid (FS.out _ K4.out)) (fun hHeld => ?_)
       clear hK K'
       simp only [List.setIfInBounds_toArray, List.set_cons_zero, List.set_cons_succ]
       refine TKB (i := 5) (v := ?v5z) rfl ?y5z ?r5z
       case y5z => (intro w hSw; (try dsimp only at hSw); go_simp; try with_reducible rfl)
       simp only [Act.put, List.getElem_toArray, List.getElem_cons_succ, List.getElem_cons_zero, List.setIfInBounds_toArray, List.set_cons_zero, List.set_cons_succ]
       refine TKB (i := 6) (v := ?v6z) rfl ?y6z ?r6z
       case y6z => (intro w hSw; (try dsimp only at hSw); go_simp; try with_reducible rfl)
       simp only [Act.put, List.getElem_toArray, List.getElem_cons_succ, List.getElem_cons_zero, List.setIfInBounds_toArray, List.set_cons_zero, List.set_cons_succ]
       refine TKB (i := 7) (v := ?v7z) rfl ?y7z ?r7z
       case y7z => (intro w hSw; (try dsimp only at hSw); go_simp; try with_reducible rfl)
       simp only [Act.put, List.getElem_toArray, List.getElem_cons_succ, List.getElem_cons_zero, List.setIfInBounds_toArray, List.set_cons_zero, List.set_cons_succ]
       refine TKB (i := 8) (v := ?v8z) rfl ?y8z ?r8z
       case y8z => (intro w hSw; (try dsimp only at hSw); go_simp; try with_reducible rfl)
       simp only [Act.put, List.getElem_toArray, List.getElem_cons_succ, List.getElem_cons_zero, List.setIfInBounds_toArray, List.set_cons_zero, List.set_cons_succ]
       refine TKB (i := 9) (v := ?v9z) rfl ?y9z ?r9z
       case y9z => (intro w hSw; (try dsimp only at hSw); go_simp; (try rw [if_pos ⟨j0, j3⟩]); try with_reducible rfl)
       simp only [Act.put, List.getElem_toArray, List.getElem_cons_succ, List.getElem_cons_zero, List.setIfInBounds_toArray, List.set_cons_zero, List.set_cons_succ]
       refine TKB (i := 10) (v := ?vbaz) rfl ?ybaz ?rbaz
       case ybaz => (intro w hSw; (try dsimp only at hSw); go_simp; try with_reducible rfl)
       simp only [Act.put, List.getElem_toArray, List.getElem_cons_succ, List.getElem_cons_zero, List.setIfInBounds_toArray, List.set_cons_zero, List.set_cons_succ]
       refine TKB (i := 11) (v := ?vbbz) rfl ?ybbz ?rbbz
       case ybbz => (intro w hSw; obtain ⟨⟨q0, q1, q2⟩, q3, q4⟩ := hSw.out; clear hSw; go_simp; try with_reducible rfl)
       simp only [Act.put, List.getElem_toArray, List.getElem_cons_succ, List.getElem_cons_zero, List.setIfInBounds_toArray, List.set_cons_zero, List.set_cons_succ]
       refine TKB (i := 12) (v := ?vbcz) rfl ?ybcz ?rbcz
       case ybcz => (intro w hSw; (try dsimp only at hSw); go_simp; try with_reducible rfl)
       simp only [Act.put, List.getElem_toArray, List.getElem_cons_succ, List.getElem_cons_zero, List.setIfInBounds_toArray, List.set_cons_zero, List.set_cons_succ]
       refine TKB (i := 13) (v := ?vbdz) rfl ?ybdz ?rbdz
       case ybdz => (intro w hSw; (try dsimp only at hSw); go_simp; try with_reducible rfl)
       simp only [Act.put, List.getElem_toArray, List.getElem_cons_succ, List.getElem_cons_zero, List.setIfInBounds_toArray, List.set_cons_zero, List.set_cons_succ]
       refine TKB (i := 14) (v := ?vbez) rfl ?ybez ?rbez
       case ybez => (intro w hSw; (try dsimp only at hSw); go_simp; (try rw [if_pos ⟨j0, j3⟩]); try with_reducible rfl)
       simp only [Act.put, List.getElem_toArray, List.getElem_cons_succ, List.getElem_cons_zero, List.setIfInBounds_toArray, List.set_cons_zero, List.set_cons_succ]
       refine TKB (i := 15) (v := ?vbfz) rfl ?ybfz ?rbfz
       case ybfz => (intro w hSw; (try dsimp only at hSw); go_simp; try with_reducible rfl)
       simp only [Act.put, List.getElem_toArray, List.getElem_cons_succ, List.getElem_cons_zero, List.setIfInBounds_toArray, List.set_cons_zero, List.set_cons_succ]
       refine TKB (i := 16) (v := ?vbgz) rfl ?ybgz ?rbgz
       case ybgz => (intro w hSw; obtain ⟨⟨q0, q1, q2⟩, q3, q4⟩ := hSw.out; clear hSw; go_simp; try with_reducible rfl)
       simp only [Act.put, List.getElem_toArray, List.getElem_cons_succ, List.getElem_cons_zero, List.setIfInBounds_toArray, List.set_cons_zero, List.set_cons_succ]
       refine TKB (i := 17) (v := ?vbhz) rfl ?ybhz ?rbhz
       case ybhz => (intro w hSw; (try dsimp only at hSw); go_simp; try with_reducible rfl)
       simp only [Act.put, List.getElem_toArray, List.getElem_cons_succ, List.getElem_cons_zero, List.setIfInBounds_toArray, List.set_cons_zero, List.set_cons_succ]
       refine TKB (i := 18) (v := ?vbiz) rfl ?ybiz ?rbiz
       case ybiz => (intro w hSw; (try dsimp only at hSw); go_simp; try with_reducible rfl)
       simp only [Act.put, List.getElem_toArray, List.getElem_cons_succ, List.getElem_cons_zero, List.setIfInBounds_toArray, List.set_cons_zero, List.set_cons_succ]
       refine TKB (i := 19) (v := ?vbjz) rfl ?ybjz ?rbjz
       case ybjz => (intro w hSw; (try dsimp only at hSw); go_simp; try with_reducible rfl)
       simp only [Act.put, List.getElem_toArray, List.getElem_cons_succ, List.getElem_cons_zero, List.setIfInBounds_toArray, List.set_cons_zero, List.set_cons_succ]
       refine TKB (i := 20) (v := ?vbkz) rfl ?ybkz ?rbkz
       case ybkz => (intro w hSw; (try dsimp only at hSw); go_simp; try with_reducible rfl)
       simp only [Act.put, List.getElem_toArray, List.getElem_cons_succ, List.getElem_cons_zero, List.setIfInBounds_toArray, List.set_cons_zero, List.set_cons_succ]
       refine TKB (i := 21) (v := ?vblz) rfl ?yblz ?rblz
       case yblz => (intro w hSw; (try dsimp only at hSw); go_simp; (try rw [if_pos ⟨j0, j3⟩]); try with_reducible rfl)
       simp only [Act.put, List.getElem_toArray, List.getElem_cons_succ, List.getElem_cons_zero, List.setIfInBounds_toArray, List.set_cons_zero, List.set_cons_succ]
       refine TKB (i := 22) (v := ?vbmz) rfl ?ybmz ?rbmz
       case ybmz => (intro w hSw; (try dsimp only at hSw); go_simp; try with_reducible rfl)
       simp only [Act.put, List.getElem_toArray, List.getElem_cons_succ, List.getElem_cons_zero, List.setIfInBounds_toArray, List.set_cons_zero, List.set_cons_succ]
       refine TKB (i := 23) (v := ?vbnz) rfl ?ybnz ?rbnz
       case ybnz => (intro w hSw; obtain ⟨⟨q0, q1, q2⟩, q3, q4⟩ := hSw.out; clear hSw; go_simp; try with_reducible rfl)
       simp only [Act.put, List.getElem_toArray, List.getElem_cons_succ, List.getElem_cons_zero, List.setIfInBounds_toArray, List.set_cons_zero, List.set_cons_succ]
       refine TKB (i := 24) (v := ?vboz) rfl ?yboz ?rboz
       case yboz => (intro w hSw; (try dsimp only at hSw); go_simp; try with_reducible rfl)
       simp only [Act.put, List.getElem_toArray, List.getElem_cons_succ, List.getElem_cons_zero, List.setIfInBounds_toArray, List.set_cons_zero, List.set_cons_succ]
       refine TKB (i := 25) (v := ?vbpz) rfl ?ybpz ?rbpz
       case ybpz => (intro w hSw; (try dsimp only at hSw); go_simp; try with_reducible rfl)
       simp only [Act.put, List.getElem_toArray, List.getElem_cons_succ, List.getElem_cons_zero, List.setIfInBounds_toArray, List.set_cons_zero, List.set_cons_succ]
       refine TKU (i := 26) rfl ?_
       simp only [Act.put, List.getElem_toArray, List.getElem_cons_succ, List.getElem_cons_zero, List.setIfInBounds_toArray, List.set_cons_zero, List.set_cons_succ]
       refine TKU (i := 27) rfl ?_
       simp only [Act.put, List.getElem_toArray, List.getElem_cons_succ, List.getElem_cons_zero, List.setIfInBounds_toArray, List.set_cons_zero, List.set_cons_succ]
       refine TKU (i := 28) rfl ?_
       simp only [Act.put, List.getElem_toArray, List.getElem_cons_succ, List.getElem_cons_zero, List.setIfInBounds_toArray, List.set_cons_zero, List.set_cons_succ]
       refine TKU (i := 29) rfl ?_
       simp only [Act.put, List.getElem_toArray, List.getElem_cons_succ, List.getElem_cons_zero, List.setIfInBounds_toArray, List.set_cons_zero, List.set_cons_succ]
       refine TKU (i := 30) rfl ?_
       simp only [Act.put, List.getElem_toArray, List.getElem_cons_succ, List.getElem_cons_zero, List.setIfInBounds_toArray, List.set_cons_zero, List.set_cons_succ]
       refine TKU (i := 31) rfl ?_
       simp only [Act.put, List.getElem_toArray, List.getElem_cons_succ, List.getElem_cons_zero, List.setIfInBounds_toArray, List.set_cons_zero, List.set_cons_succ]
       refine TKB (i := 32) (v := ?vbqz) rfl ?ybqz ?rbqz
       case ybqz => (intro w hSw; (try dsimp only at hSw); go_simp; try with_reducible rfl)
       simp only [Act.put, List.getElem_toArray, List.getElem_cons_succ, List.getElem_cons_zero, List.setIfInBounds_toArray, List.set_cons_zero, List.set_cons_succ]
       refine TKB (i := 33) (v := ?vbrz) rfl ?ybrz ?rbrz
       case ybrz => (intro w hSw; (try dsimp only at hSw); go_simp; try with_reducible rfl)
       simp only [Act.put, List.getElem_toArray, List.getElem_cons_succ, List.getElem_cons_zero, List.setIfInBounds_toArray, List.set_cons_zero, List.set_cons_succ]
       refine TKB (i := 34) (v := ?vbsz) rfl ?ybsz ?rbsz
       case ybsz => (intro w hSw; (try dsimp only at hSw); go_simp; try with_reducible rfl)
       simp only [Act.put, List.getElem_toArray, List.getElem_cons_succ, List.getElem_cons_zero, List.setIfInBounds_toArray, List.set_cons_zero, List.set_cons_succ]
       refine wpAnyH_done (by kernel_rfl) ?_ _
       go_wp2_with fail
       go_ret
       exact ⟨⟨false, rfl, ⟨fun h => (by cases h), fun h => absurd (HX.out h) HNo.out⟩⟩, KR.out.trans K4.out⟩
      | false =>
       cases xb with
       | true =>
        have HJ2 := Lib.hid (HJ3.out (by
         unfold holdsB Vv.good
         simp only [Bool.and_eq_true, Bool.or_eq_true, decide_eq_true_eq]
         exact ⟨hgd, .inr ⟨by simpa using hq, trivial⟩⟩))
        clear hgd HJ3 HX
        refine wp_region_held_drew (S := (fun W => Hid ((W.cell? ⟨b2, off2 + k * 3, none⟩ = some (.int .i64 yk) ∧ W.cell? ⟨b2, off2 + k * 3 + 1, none⟩ = some (.int .i64 yn) ∧ W.cell? ⟨b2, off2 + k * 3 + 2, none⟩ = some (.string ys)) ∧ W.cell? ⟨b, off + k * 3 + 1, none⟩ = some (.int .i64 xk) ∧ W.cell? ⟨b, off + k * 3 + 2, none⟩ = some (.bool true)))) (by kernel_rfl) (Lib.hid (FS.out _ (grown_drew6 (grown_refl6 wr none)))) (fun hHeld => ?_)
        refine TKB (i := 0) (v := ?vbtz) rfl ?ybtz ?rbtz
        case ybtz => (intro w hSw; (try dsimp only at hSw); go_simp; try with_reducible rfl)
        simp only [Act.put, List.getElem_toArray, List.getElem_cons_zero, List.size_toArray, List.length_cons, List.length_nil, Nat.reduceAdd, Array.replicate, List.replicate, List.setIfInBounds_toArray, List.set_cons_zero, List.set_cons_succ]
        refine TKB (i := 1) (v := ?vbuz) rfl ?ybuz ?rbuz
        case ybuz => (intro w hSw; (try dsimp only at hSw); go_simp; try with_reducible rfl)
        simp only [Act.put, List.getElem_toArray, List.getElem_cons_succ, List.getElem_cons_zero, List.setIfInBounds_toArray, List.set_cons_zero, List.set_cons_succ]
        refine TKB (i := 2) (v := ?vbvz) rfl ?ybvz ?rbvz
        case ybvz => (intro w hSw; (try dsimp only at hSw); go_simp; (try rw [if_pos ⟨j0, j3⟩]); try with_reducible rfl)
        simp only [Act.put, List.getElem_toArray, List.getElem_cons_succ, List.getElem_cons_zero, List.setIfInBounds_toArray, List.set_cons_zero, List.set_cons_succ]
        refine TKB (i := 3) (v := ?vbwz) rfl ?ybwz ?rbwz
        case ybwz => (intro w hSw; obtain ⟨⟨q0, q1, q2⟩, q3, q4⟩ := hSw.out; clear hSw; go_simp; try with_reducible rfl)
        simp only [Act.put, List.getElem_toArray, List.getElem_cons_succ, List.getElem_cons_zero, List.setIfInBounds_toArray, List.set_cons_zero, List.set_cons_succ]
        refine RD1 (i := 4) rfl (fun K' hK => ?_)
        go_simp
        go_at_call 44
        refine (HG.out _).mono ?_
        rintro e w4 ⟨rfl, hg4⟩
        have K4 := Lib.hid ((grown_drew6 (grown_refl6 wr none)).trans (grown_below6 hg4 none))
        clear hg4
        refine hK.out _ _ (Lib.hid (FS.out _ K4.out)) (fun hHeld => ?_)
        clear hK K'
        simp only [List.setIfInBounds_toArray, List.set_cons_zero, List.set_cons_succ]
        refine TKB (i := 5) (v := ?vbxz) rfl ?ybxz ?rbxz
        case ybxz => (intro w hSw; (try dsimp only at hSw); go_simp; try with_reducible rfl)
        simp only [Act.put, List.getElem_toArray, List.getElem_cons_succ, List.getElem_cons_zero, List.setIfInBounds_toArray, List.set_cons_zero, List.set_cons_succ]
        refine TKB (i := 6) (v := ?vbyz) rfl ?ybyz ?rbyz
        case ybyz => (intro w hSw; (try dsimp only at hSw); go_simp; try with_reducible rfl)
        simp only [Act.put, List.getElem_toArray, List.getElem_cons_succ, List.getElem_cons_zero, List.setIfInBounds_toArray, List.set_cons_zero, List.set_cons_succ]
        refine TKB (i := 7) (v := ?vbzz) rfl ?ybzz ?rbzz
        case ybzz => (intro w hSw; (try dsimp only at hSw); go_simp; try with_reducible rfl)
        simp only [Act.put, List.getElem_toArray, List.getElem_cons_succ, List.getElem_cons_zero, List.setIfInBounds_toArray, List.set_cons_zero, List.set_cons_succ]
        refine TKB (i := 8) (v := ?vb0z) rfl ?yb0z ?rb0z
        case yb0z => (intro w hSw; (try dsimp only at hSw); go_simp; try with_reducible rfl)
        simp only [Act.put, List.getElem_toArray, List.getElem_cons_succ, List.getElem_cons_zero, List.setIfInBounds_toArray, List.set_cons_zero, List.set_cons_succ]
        refine TKB (i := 9) (v := ?vb1z) rfl ?yb1z ?rb1z
        case yb1z => (intro w hSw; (try dsimp only at hSw); go_simp; (try rw [if_pos ⟨j0, j3⟩]); try with_reducible rfl)
        simp only [Act.put, List.getElem_toArray, List.getElem_cons_succ, List.getElem_cons_zero, List.setIfInBounds_toArray, List.set_cons_zero, List.set_cons_succ]
        refine TKB (i := 10) (v := ?vb2z) rfl ?yb2z ?rb2z
        case yb2z => (intro w hSw; (try dsimp only at hSw); go_simp; try with_reducible rfl)
        simp only [Act.put, List.getElem_toArray, List.getElem_cons_succ, List.getElem_cons_zero, List.setIfInBounds_toArray, List.set_cons_zero, List.set_cons_succ]
        refine TKB (i := 11) (v := ?vb3z) rfl ?yb3z ?rb3z
        case yb3z => (intro w hSw; obtain ⟨⟨q0, q1, q2⟩, q3, q4⟩ := hSw.out; clear hSw; go_simp; try with_reducible rfl)
        simp only [Act.put, List.getElem_toArray, List.getElem_cons_succ, List.getElem_cons_zero, List.setIfInBounds_toArray, List.set_cons_zero, List.set_cons_succ]
        refine TKB (i := 12) (v := ?vb4z) rfl ?yb4z ?rb4z
        case yb4z => (intro w hSw; (try dsimp only at hSw); go_simp; try with_reducible rfl)
        simp only [Act.put, List.getElem_toArray, List.getElem_cons_succ, List.getElem_cons_zero, List.setIfInBounds_toArray, List.set_cons_zero, List.set_cons_succ]
        refine TKB (i := 13) (v := ?vb5z) rfl ?yb5z ?rb5z
        case yb5z => (intro w hSw; (try dsimp only at hSw); go_simp; try with_reducible rfl)
        simp only [Act.put, List.getElem_toArray, List.getElem_cons_succ, List.getElem_cons_zero, List.setIfInBounds_toArray, List.set_cons_zero, List.set_cons_succ]
        refine TKB (i := 14) (v := ?vb6z) rfl ?yb6z ?rb6z
        case yb6z => (intro w hSw; (try dsimp only at hSw); go_simp; (try rw [if_pos ⟨j0, j3⟩]); try with_reducible rfl)
        simp only [Act.put, List.getElem_toArray, List.getElem_cons_succ, List.getElem_cons_zero, List.setIfInBounds_toArray, List.set_cons_zero, List.set_cons_succ]
        refine TKB (i := 15) (v := ?vb7z) rfl ?yb7z ?rb7z
        case yb7z => (intro w hSw; (try dsimp only at hSw); go_simp; try with_reducible rfl)
        simp only [Act.put, List.getElem_toArray, List.getElem_cons_succ, List.getElem_cons_zero, List.setIfInBounds_toArray, List.set_cons_zero, List.set_cons_succ]
        refine TKB (i := 16) (v := ?vb8z) rfl ?yb8z ?rb8z
        case yb8z => (intro w hSw; obtain ⟨⟨q0, q1, q2⟩, q3, q4⟩ := hSw.out; clear hSw; go_simp; try with_reducible rfl)
        simp only [Act.put, List.getElem_toArray, List.getElem_cons_succ, List.getElem_cons_zero, List.setIfInBounds_toArray, List.set_cons_zero, List.set_cons_succ]
        refine TKB (i := 17) (v := ?vb9z) rfl ?yb9z ?rb9z
        case yb9z => (intro w hSw; (try dsimp only at hSw); go_simp; try with_reducible rfl)
        simp only [Act.put, List.getElem_toArray, List.getElem_cons_succ, List.getElem_cons_zero, List.setIfInBounds_toArray, List.set_cons_zero, List.set_cons_succ]
        refine TKB (i := 18) (v := ?vcaz) rfl ?ycaz ?rcaz
        case ycaz => (intro w hSw; (try dsimp only at hSw); go_simp; try with_reducible rfl)
        simp only [Act.put, List.getElem_toArray, List.getElem_cons_succ, List.getElem_cons_zero, List.setIfInBounds_toArray, List.set_cons_zero, List.set_cons_succ]
        refine TKB (i := 19) (v := ?vcbz) rfl ?ycbz ?rcbz
        case ycbz => (intro w hSw; (try dsimp only at hSw); go_simp; try with_reducible rfl)
        simp only [Act.put, List.getElem_toArray, List.getElem_cons_succ, List.getElem_cons_zero, List.setIfInBounds_toArray, List.set_cons_zero, List.set_cons_succ]
        refine TKB (i := 20) (v := ?vccz) rfl ?yccz ?rccz
        case yccz => (intro w hSw; (try dsimp only at hSw); go_simp; try with_reducible rfl)
        simp only [Act.put, List.getElem_toArray, List.getElem_cons_succ, List.getElem_cons_zero, List.setIfInBounds_toArray, List.set_cons_zero, List.set_cons_succ]
        refine TKB (i := 21) (v := ?vcdz) rfl ?ycdz ?rcdz
        case ycdz => (intro w hSw; (try dsimp only at hSw); go_simp; (try rw [if_pos ⟨j0, j3⟩]); try with_reducible rfl)
        simp only [Act.put, List.getElem_toArray, List.getElem_cons_succ, List.getElem_cons_zero, List.setIfInBounds_toArray, List.set_cons_zero, List.set_cons_succ]
        refine TKB (i := 22) (v := ?vcez) rfl ?ycez ?rcez
        case ycez => (intro w hSw; (try dsimp only at hSw); go_simp; try with_reducible rfl)
        simp only [Act.put, List.getElem_toArray, List.getElem_cons_succ, List.getElem_cons_zero, List.setIfInBounds_toArray, List.set_cons_zero, List.set_cons_succ]
        refine TKB (i := 23) (v := ?vcfz) rfl ?ycfz ?rcfz
        case ycfz => (intro w hSw; obtain ⟨⟨q0, q1, q2⟩, q3, q4⟩ := hSw.out; clear hSw; go_simp; try with_reducible rfl)
        simp only [Act.put, List.getElem_toArray, List.getElem_cons_succ, List.getElem_cons_zero, List.setIfInBounds_toArray, List.set_cons_zero, List.set_cons_succ]
        refine TKB (i := 24) (v := ?vcgz) rfl ?ycgz ?rcgz
        case ycgz => (intro w hSw; (try dsimp only at hSw); go_simp; try with_reducible rfl)
        simp only [Act.put, List.getElem_toArray, List.getElem_cons_succ, List.getElem_cons_zero, List.setIfInBounds_toArray, List.set_cons_zero, List.set_cons_succ]
        refine TKB (i := 25) (v := ?vchz) rfl ?ychz ?rchz
        case ychz => (intro w hSw; (try dsimp only at hSw); go_simp; try with_reducible rfl)
        simp only [Act.put, List.getElem_toArray, List.getElem_cons_succ, List.getElem_cons_zero, List.setIfInBounds_toArray, List.set_cons_zero, List.set_cons_succ]
        refine TKB (i := 26) (v := ?vciz) rfl ?yciz ?rciz
        case yciz => (intro w hSw; (try dsimp only at hSw); go_simp; try with_reducible rfl)
        simp only [Act.put, List.getElem_toArray, List.getElem_cons_succ, List.getElem_cons_zero, List.setIfInBounds_toArray, List.set_cons_zero, List.set_cons_succ]
        refine TKB (i := 27) (v := ?vcjz) rfl ?ycjz ?rcjz
        case ycjz => (intro w hSw; (try dsimp only at hSw); go_simp; try with_reducible rfl)
        simp only [Act.put, List.getElem_toArray, List.getElem_cons_succ, List.getElem_cons_zero, List.setIfInBounds_toArray, List.set_cons_zero, List.set_cons_succ]
        refine TKB (i := 28) (v := ?vckz) rfl ?yckz ?rckz
        case yckz => (intro w hSw; (try dsimp only at hSw); go_simp; (try rw [if_pos ⟨j0, j3⟩]); try with_reducible rfl)
        simp only [Act.put, List.getElem_toArray, List.getElem_cons_succ, List.getElem_cons_zero, List.setIfInBounds_toArray, List.set_cons_zero, List.set_cons_succ]
        refine TKB (i := 29) (v := ?vclz) rfl ?yclz ?rclz
        case yclz => (intro w hSw; (try dsimp only at hSw); go_simp; try with_reducible rfl)
        simp only [Act.put, List.getElem_toArray, List.getElem_cons_succ, List.getElem_cons_zero, List.setIfInBounds_toArray, List.set_cons_zero, List.set_cons_succ]
        refine TKB (i := 30) (v := ?vcmz) rfl ?ycmz ?rcmz
        case ycmz => (intro w hSw; obtain ⟨⟨q0, q1, q2⟩, q3, q4⟩ := hSw.out; clear hSw; go_simp; try with_reducible rfl)
        simp only [Act.put, List.getElem_toArray, List.getElem_cons_succ, List.getElem_cons_zero, List.setIfInBounds_toArray, List.set_cons_zero, List.set_cons_succ]
        refine TKB (i := 31) (v := ?vcnz) rfl ?ycnz ?rcnz
        case ycnz => (intro w hSw; (try dsimp only at hSw); go_simp; try with_reducible rfl)
        simp only [Act.put, List.getElem_toArray, List.getElem_cons_succ, List.getElem_cons_zero, List.setIfInBounds_toArray, List.set_cons_zero, List.set_cons_succ]
        refine TKB (i := 32) (v := ?vcoz) rfl ?ycoz ?rcoz
        case ycoz => (intro w hSw; (try dsimp only at hSw); go_simp; try with_reducible rfl)
        simp only [Act.put, List.getElem_toArray, List.getElem_cons_succ, List.getElem_cons_zero, List.setIfInBounds_toArray, List.set_cons_zero, List.set_cons_succ]
        refine TKB (i := 33) (v := ?vcpz) rfl ?ycpz ?rcpz
        case ycpz => (intro w hSw; (try dsimp only at hSw); go_simp; try with_reducible rfl)
        simp only [Act.put, List.getElem_toArray, List.getElem_cons_succ, List.getElem_cons_zero, List.setIfInBounds_toArray, List.set_cons_zero, List.set_cons_succ]
        refine TKB (i := 34) (v := ?vcqz) rfl ?ycqz ?rcqz
        case ycqz => (intro w hSw; (try dsimp only at hSw); go_simp; try with_reducible rfl)
        simp only [Act.put, List.getElem_toArray, List.getElem_cons_succ, List.getElem_cons_zero, List.setIfInBounds_toArray, List.set_cons_zero, List.set_cons_succ]
        refine wpAnyH_done (by kernel_rfl) ?_ _
        go_wp2_with fail
        go_roundw
        case rel => exact ⟨k + 1, by go_num, by omega, Lib.hid (KR.out.trans K4.out), HJ2⟩
        case measure => simp [intOf]; omega
       | false =>
        have HNo : Hid (¬ holdsB ⟨xn, xk, false⟩ ⟨yk, yn, ys⟩ = true) := Lib.hid (fun h => by
         have := (holdsB_two h).2
         simp only at this
         rw [hp, hq] at this
         simp at this)
        clear hgd HJ3
        refine wp_region_held_drew (S := (fun W => Hid ((W.cell? ⟨b2, off2 + k * 3, none⟩ = some (.int .i64 yk) ∧ W.cell? ⟨b2, off2 + k * 3 + 1, none⟩ = some (.int .i64 yn) ∧ W.cell? ⟨b2, off2 + k * 3 + 2, none⟩ = some (.string ys)) ∧ W.cell? ⟨b, off + k * 3 + 1, none⟩ = some (.int .i64 xk) ∧ W.cell? ⟨b, off + k * 3 + 2, none⟩ = some (.bool false)))) (by kernel_rfl) (Lib.hid (FS.out _ (grown_drew6 (grown_refl6 wr none)))) (fun hHeld => ?_)
        refine TKB (i := 0) (v := ?vcrz) rfl ?ycrz ?rcrz
        case ycrz => (intro w hSw; (try dsimp only at hSw); go_simp; try with_reducible rfl)
        simp only [Act.put, List.getElem_toArray, List.getElem_cons_zero, List.size_toArray, List.length_cons, List.length_nil, Nat.reduceAdd, Array.replicate, List.replicate, List.setIfInBounds_toArray, List.set_cons_zero, List.set_cons_succ]
        refine TKB (i := 1) (v := ?vcsz) rfl ?ycsz ?rcsz
        case ycsz => (intro w hSw; (try dsimp only at hSw); go_simp; try with_reducible rfl)
        simp only [Act.put, List.getElem_toArray, List.getElem_cons_succ, List.getElem_cons_zero, List.setIfInBounds_toArray, List.set_cons_zero, List.set_cons_succ]
        refine TKB (i := 2) (v := ?vctz) rfl ?yctz ?rctz
        case yctz => (intro w hSw; (try dsimp only at hSw); go_simp; (try rw [if_pos ⟨j0, j3⟩]); try with_reducible rfl)
        simp only [Act.put, List.getElem_toArray, List.getElem_cons_succ, List.getElem_cons_zero, List.setIfInBounds_toArray, List.set_cons_zero, List.set_cons_succ]
        refine TKB (i := 3) (v := ?vcuz) rfl ?ycuz ?rcuz
        case ycuz => (intro w hSw; obtain ⟨⟨q0, q1, q2⟩, q3, q4⟩ := hSw.out; clear hSw; go_simp; try with_reducible rfl)
        simp only [Act.put, List.getElem_toArray, List.getElem_cons_succ, List.getElem_cons_zero, List.setIfInBounds_toArray, List.set_cons_zero, List.set_cons_succ]
        refine RD1 (i := 4) rfl (fun K' hK => ?_)
        go_simp
        go_at_call 44
        refine (HG.out _).mono ?_
        rintro e w4 ⟨rfl, hg4⟩
        have K4 := Lib.hid ((grown_drew6 (grown_refl6 wr none)).trans (grown_below6 hg4 none))
        clear hg4
        refine hK.out _ _ (Lib.hid (FS.out _ K4.out)) (fun hHeld => ?_)
        clear hK K'
        simp only [List.setIfInBounds_toArray, List.set_cons_zero, List.set_cons_succ]
        refine TKB (i := 5) (v := ?vcvz) rfl ?ycvz ?rcvz
        case ycvz => (intro w hSw; (try dsimp only at hSw); go_simp; try with_reducible rfl)
        simp only [Act.put, List.getElem_toArray, List.getElem_cons_succ, List.getElem_cons_zero, List.setIfInBounds_toArray, List.set_cons_zero, List.set_cons_succ]
        refine TKB (i := 6) (v := ?vcwz) rfl ?ycwz ?rcwz
        case ycwz => (intro w hSw; (try dsimp only at hSw); go_simp; try with_reducible rfl)
        simp only [Act.put, List.getElem_toArray, List.getElem_cons_succ, List.getElem_cons_zero, List.setIfInBounds_toArray, List.set_cons_zero, List.set_cons_succ]
        refine TKB (i := 7) (v := ?vcxz) rfl ?ycxz ?rcxz
        case ycxz => (intro w hSw; (try dsimp only at hSw); go_simp; try with_reducible rfl)
        simp only [Act.put, List.getElem_toArray, List.getElem_cons_succ, List.getElem_cons_zero, List.setIfInBounds_toArray, List.set_cons_zero, List.set_cons_succ]
        refine TKB (i := 8) (v := ?vcyz) rfl ?ycyz ?rcyz
        case ycyz => (intro w hSw; (try dsimp only at hSw); go_simp; try with_reducible rfl)
        simp only [Act.put, List.getElem_toArray, List.getElem_cons_succ, List.getElem_cons_zero, List.setIfInBounds_toArray, List.set_cons_zero, List.set_cons_succ]
        refine TKB (i := 9) (v := ?vczz) rfl ?yczz ?rczz
        case yczz => (intro w hSw; (try dsimp only at hSw); go_simp; (try rw [if_pos ⟨j0, j3⟩]); try with_reducible rfl)
        simp only [Act.put, List.getElem_toArray, List.getElem_cons_succ, List.getElem_cons_zero, List.setIfInBounds_toArray, List.set_cons_zero, List.set_cons_succ]
        refine TKB (i := 10) (v := ?vc0z) rfl ?yc0z ?rc0z
        case yc0z => (intro w hSw; (try dsimp only at hSw); go_simp; try with_reducible rfl)
        simp only [Act.put, List.getElem_toArray, List.getElem_cons_succ, List.getElem_cons_zero, List.setIfInBounds_toArray, List.set_cons_zero, List.set_cons_succ]
        refine TKB (i := 11) (v := ?vc1z) rfl ?yc1z ?rc1z
        case yc1z => (intro w hSw; obtain ⟨⟨q0, q1, q2⟩, q3, q4⟩ := hSw.out; clear hSw; go_simp; try with_reducible rfl)
        simp only [Act.put, List.getElem_toArray, List.getElem_cons_succ, List.getElem_cons_zero, List.setIfInBounds_toArray, List.set_cons_zero, List.set_cons_succ]
        refine TKB (i := 12) (v := ?vc2z) rfl ?yc2z ?rc2z
        case yc2z => (intro w hSw; (try dsimp only at hSw); go_simp; try with_reducible rfl)
        simp only [Act.put, List.getElem_toArray, List.getElem_cons_succ, List.getElem_cons_zero, List.setIfInBounds_toArray, List.set_cons_zero, List.set_cons_succ]
        refine TKB (i := 13) (v := ?vc3z) rfl ?yc3z ?rc3z
        case yc3z => (intro w hSw; (try dsimp only at hSw); go_simp; try with_reducible rfl)
        simp only [Act.put, List.getElem_toArray, List.getElem_cons_succ, List.getElem_cons_zero, List.setIfInBounds_toArray, List.set_cons_zero, List.set_cons_succ]
        refine TKB (i := 14) (v := ?vc4z) rfl ?yc4z ?rc4z
        case yc4z => (intro w hSw; (try dsimp only at hSw); go_simp; (try rw [if_pos ⟨j0, j3⟩]); try with_reducible rfl)
        simp only [Act.put, List.getElem_toArray, List.getElem_cons_succ, List.getElem_cons_zero, List.setIfInBounds_toArray, List.set_cons_zero, List.set_cons_succ]
        refine TKB (i := 15) (v := ?vc5z) rfl ?yc5z ?rc5z
        case yc5z => (intro w hSw; (try dsimp only at hSw); go_simp; try with_reducible rfl)
        simp only [Act.put, List.getElem_toArray, List.getElem_cons_succ, List.getElem_cons_zero, List.setIfInBounds_toArray, List.set_cons_zero, List.set_cons_succ]
        refine TKB (i := 16) (v := ?vc6z) rfl ?yc6z ?rc6z
        case yc6z => (intro w hSw; obtain ⟨⟨q0, q1, q2⟩, q3, q4⟩ := hSw.out; clear hSw; go_simp; try with_reducible rfl)
        simp only [Act.put, List.getElem_toArray, List.getElem_cons_succ, List.getElem_cons_zero, List.setIfInBounds_toArray, List.set_cons_zero, List.set_cons_succ]
        refine TKB (i := 17) (v := ?vc7z) rfl ?yc7z ?rc7z
        case yc7z => (intro w hSw; (try dsimp only at hSw); go_simp; try with_reducible rfl)
        simp only [Act.put, List.getElem_toArray, List.getElem_cons_succ, List.getElem_cons_zero, List.setIfInBounds_toArray, List.set_cons_zero, List.set_cons_succ]
        refine TKB (i := 18) (v := ?vc8z) rfl ?yc8z ?rc8z
        case yc8z => (intro w hSw; (try dsimp only at hSw); go_simp; try with_reducible rfl)
        simp only [Act.put, List.getElem_toArray, List.getElem_cons_succ, List.getElem_cons_zero, List.setIfInBounds_toArray, List.set_cons_zero, List.set_cons_succ]
        refine TKB (i := 19) (v := ?vc9z) rfl ?yc9z ?rc9z
        case yc9z => (intro w hSw; (try dsimp only at hSw); go_simp; try with_reducible rfl)
        simp only [Act.put, List.getElem_toArray, List.getElem_cons_succ, List.getElem_cons_zero, List.setIfInBounds_toArray, List.set_cons_zero, List.set_cons_succ]
        refine TKB (i := 20) (v := ?vdaz) rfl ?ydaz ?rdaz
        case ydaz => (intro w hSw; (try dsimp only at hSw); go_simp; try with_reducible rfl)
        simp only [Act.put, List.getElem_toArray, List.getElem_cons_succ, List.getElem_cons_zero, List.setIfInBounds_toArray, List.set_cons_zero, List.set_cons_succ]
        refine TKB (i := 21) (v := ?vdbz) rfl ?ydbz ?rdbz
        case ydbz => (intro w hSw; (try dsimp only at hSw); go_simp; (try rw [if_pos ⟨j0, j3⟩]); try with_reducible rfl)
        simp only [Act.put, List.getElem_toArray, List.getElem_cons_succ, List.getElem_cons_zero, List.setIfInBounds_toArray, List.set_cons_zero, List.set_cons_succ]
        refine TKB (i := 22) (v := ?vdcz) rfl ?ydcz ?rdcz
        case ydcz => (intro w hSw; (try dsimp only at hSw); go_simp; try with_reducible rfl)
        simp only [Act.put, List.getElem_toArray, List.getElem_cons_succ, List.getElem_cons_zero, List.setIfInBounds_toArray, List.set_cons_zero, List.set_cons_succ]
        refine TKB (i := 23) (v := ?vddz) rfl ?yddz ?rddz
        case yddz => (intro w hSw; obtain ⟨⟨q0, q1, q2⟩, q3, q4⟩ := hSw.out; clear hSw; go_simp; try with_reducible rfl)
        simp only [Act.put, List.getElem_toArray, List.getElem_cons_succ, List.getElem_cons_zero, List.setIfInBounds_toArray, List.set_cons_zero, List.set_cons_succ]
        refine TKB (i := 24) (v := ?vdez) rfl ?ydez ?rdez
        case ydez => (intro w hSw; (try dsimp only at hSw); go_simp; try with_reducible rfl)
        simp only [Act.put, List.getElem_toArray, List.getElem_cons_succ, List.getElem_cons_zero, List.setIfInBounds_toArray, List.set_cons_zero, List.set_cons_succ]
        refine TKB (i := 25) (v := ?vdfz) rfl ?ydfz ?rdfz
        case ydfz => (intro w hSw; (try dsimp only at hSw); go_simp; try with_reducible rfl)
        simp only [Act.put, List.getElem_toArray, List.getElem_cons_succ, List.getElem_cons_zero, List.setIfInBounds_toArray, List.set_cons_zero, List.set_cons_succ]
        refine TKB (i := 26) (v := ?vdgz) rfl ?ydgz ?rdgz
        case ydgz => (intro w hSw; (try dsimp only at hSw); go_simp; try with_reducible rfl)
        simp only [Act.put, List.getElem_toArray, List.getElem_cons_succ, List.getElem_cons_zero, List.setIfInBounds_toArray, List.set_cons_zero, List.set_cons_succ]
        refine TKB (i := 27) (v := ?vdhz) rfl ?ydhz ?rdhz
        case ydhz => (intro w hSw; (try dsimp only at hSw); go_simp; try with_reducible rfl)
        simp only [Act.put, List.getElem_toArray, List.getElem_cons_succ, List.getElem_cons_zero, List.setIfInBounds_toArray, List.set_cons_zero, List.set_cons_succ]
        refine TKB (i := 28) (v := ?vdiz) rfl ?ydiz ?rdiz
        case ydiz => (intro w hSw; (try dsimp only at hSw); go_simp; (try rw [if_pos ⟨j0, j3⟩]); try with_reducible rfl)
        simp only [Act.put, List.getElem_toArray, List.getElem_cons_succ, List.getElem_cons_zero, List.setIfInBounds_toArray, List.set_cons_zero, List.set_cons_succ]
        refine TKB (i := 29) (v := ?vdjz) rfl ?ydjz ?rdjz
        case ydjz => (intro w hSw; (try dsimp only at hSw); go_simp; try with_reducible rfl)
        simp only [Act.put, List.getElem_toArray, List.getElem_cons_succ, List.getElem_cons_zero, List.setIfInBounds_toArray, List.set_cons_zero, List.set_cons_succ]
        refine TKB (i := 30) (v := ?vdkz) rfl ?ydkz ?rdkz
        case ydkz => (intro w hSw; obtain ⟨⟨q0, q1, q2⟩, q3, q4⟩ := hSw.out; clear hSw; go_simp; try with_reducible rfl)
        simp only [Act.put, List.getElem_toArray, List.getElem_cons_succ, List.getElem_cons_zero, List.setIfInBounds_toArray, List.set_cons_zero, List.set_cons_succ]
        refine TKB (i := 31) (v := ?vdlz) rfl ?ydlz ?rdlz
        case ydlz => (intro w hSw; (try dsimp only at hSw); go_simp; try with_reducible rfl)
        simp only [Act.put, List.getElem_toArray, List.getElem_cons_succ, List.getElem_cons_zero, List.setIfInBounds_toArray, List.set_cons_zero, List.set_cons_succ]
        refine TKB (i := 32) (v := ?vdmz) rfl ?ydmz ?rdmz
        case ydmz => (intro w hSw; (try dsimp only at hSw); go_simp; try with_reducible rfl)
        simp only [Act.put, List.getElem_toArray, List.getElem_cons_succ, List.getElem_cons_zero, List.setIfInBounds_toArray, List.set_cons_zero, List.set_cons_succ]
        refine TKB (i := 33) (v := ?vdnz) rfl ?ydnz ?rdnz
        case ydnz => (intro w hSw; (try dsimp only at hSw); go_simp; try with_reducible rfl)
        simp only [Act.put, List.getElem_toArray, List.getElem_cons_succ, List.getElem_cons_zero, List.setIfInBounds_toArray, List.set_cons_zero, List.set_cons_succ]
        refine TKB (i := 34) (v := ?vdoz) rfl ?ydoz ?rdoz
        case ydoz => (intro w hSw; (try dsimp only at hSw); go_simp; try with_reducible rfl)
        simp only [Act.put, List.getElem_toArray, List.getElem_cons_succ, List.getElem_cons_zero, List.setIfInBounds_toArray, List.set_cons_zero, List.set_cons_succ]
        refine wpAnyH_done (by kernel_rfl) ?_ _
        go_wp2_with fail
        go_ret
        exact ⟨⟨false, rfl, ⟨fun h => (by cases h), fun h => absurd (HX.out h) HNo.out⟩⟩, KR.out.trans K4.out⟩
   ·obtain rfl : rn = k := by omega
    have HT := Lib.hid (HI2.out HJ.out)
    go_wp2_with fail
    go_ret
    exact ⟨⟨true, rfl, ⟨fun _ => HT.out, fun _ => rfl⟩⟩, KR.out⟩
 ·have HNo : Hid (F → False) := Lib.hid (fun h => he (HL.out h))
  have he1 : ¬ ((rn : Int) = n) := by omega
  have he2 : ((n : Int) != rn) = true := by rw [bne_iff_ne]; omega
  clear he
  go_wp2_with fail
  go_ret
  exact ⟨⟨false, rfl, ⟨fun h => (by cases h), fun h => (HNo.out h).elim⟩⟩, grown_reflT _ _⟩
end Go.Proofs.Ytfambadamebjjaa
