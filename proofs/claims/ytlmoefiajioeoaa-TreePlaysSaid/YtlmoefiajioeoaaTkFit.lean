/- Acts in memory; Fits. -/
import Derived.Test.YtlmoefiajioeoaaTkT
namespace Go.Proofs.Ytlmoefiajioeoaa
open Go.RowKit

structure Aw where
  d : Bool
  k : Rw
  r : Rw
instance : Inhabited Aw := ⟨⟨false, default, default⟩⟩
/-- A slice of acts in memory. -/
def AcAt (w : World) (a : Ptr) (l : List Aw) : Prop :=
  l.length ≤ 9223372036854775807 ∧ (∀ x ∈ l, RowAt w x.k.a x.k.l ∧ RowAt w x.r.a x.r.l) ∧ (l = [] ∨ ∃ b off, a = some ⟨b, off, none⟩ ∧ b < w.heap.size ∧ ∀ i, i < l.length → w.cell? ⟨b, off + i * 3, none⟩ = some (.bool (l.getD i default).d) ∧ w.cell? ⟨b, off + i * 3 + 1, none⟩ = some (l.getD i default).k.v ∧ w.cell? ⟨b, off + i * 3 + 2, none⟩ = some (l.getD i default).r.v)
theorem AcAt.keep {w w' : World} {a : Ptr} {l : List Aw} (h : AcAt w a l) (hg : Below w.heap.size w w') : AcAt w' a l := by
  refine ⟨h.1, fun x hx => ⟨(h.2.1 x hx).1.keep hg, (h.2.1 x hx).2.keep hg⟩, h.2.2.imp id fun ⟨b, off, e, hlt, hc⟩ => ⟨b, off, e, Nat.lt_of_lt_of_le hlt hg.size, fun i hi => ?_⟩⟩
  exact ⟨(hg.cell (p := ⟨b, _, none⟩) hlt).trans (hc i hi).1, (hg.cell (p := ⟨b, _, none⟩) hlt).trans (hc i hi).2.1, (hg.cell (p := ⟨b, _, none⟩) hlt).trans (hc i hi).2.2⟩
theorem AcAt.at {w : World} {a : Ptr} {l : List Aw} (h : AcAt w a l) {i : Nat} (hi : i < l.length) : (∃ b off, a = some ⟨b, off, none⟩ ∧ w.cell? ⟨b, off + i * 3, none⟩ = some (.bool (l.getD i default).d) ∧ w.cell? ⟨b, off + i * 3 + 1, none⟩ = some (l.getD i default).k.v ∧ w.cell? ⟨b, off + i * 3 + 2, none⟩ = some (l.getD i default).r.v) ∧ RowAt w (l.getD i default).k.a (l.getD i default).k.l ∧ RowAt w (l.getD i default).r.a (l.getD i default).r.l := by
  refine ⟨?_, h.2.1 _ (by simp [List.getD, hi])⟩
  rcases h.2.2 with h0 | ⟨b, off, e, _, hc⟩
  · rw [h0] at hi; simp at hi
  · exact ⟨b, off, e, hc i hi⟩
theorem RowAt.rws {w : World} {a : Ptr} {l : List Vl} (h : RowAt w a l) (hl : l.length ≤ 10) : RwS (fun _ => True) w a l :=
  ⟨by omega, h.2.1, h.2.2.imp id fun ⟨b, off, e, hlt, hc⟩ => ⟨b, off, e, trivial, hlt, hc⟩⟩
def fitA (x : Aw) : Prop := x.k.l.length ≤ 10 ∧ x.r.l.length ≤ 10 ∧ x.k.l.all Vl.good = true ∧ x.r.l.all Vl.good = true ∧ (x.d = false → x.r.l.length ≠ 0)
theorem take_atA {D : List Aw} {j : Nat} (h : j < D.length) : D.take (j + 1) = D.take j ++ [D.getD j default] := by
  rw [List.take_succ_eq_append_getElem h]; simp [List.getD, h]
def FitsB (l : List Aw) (b : Bool) : Prop := b = true → l.length ≤ 200 ∧ ∀ x ∈ l, fitA x
def SaysFit (l : List Aw) (w : World) (e : Ending) (w' : World) : Prop := (∃ b, e = .returned (.bool b) ∧ FitsB l b) ∧ w.grownBy w' none
theorem says_fit {l : List Aw} {w w' : World} {b : Bool} (hb : FitsB l b) (hg : w.grownBy w' none) : SaysFit l w (.returned (.bool b)) w' := ⟨⟨b, rfl, hb⟩, hg⟩
theorem says_no {l : List Aw} {w w' : World} (hg : w.grownBy w' none) : SaysFit l w (.returned (.bool false)) w' := says_fit (fun h => by cases h) hg
abbrev cA (d : Bool) (ka : Ptr) (m kc : Nat) (ra : Ptr) (q rc : Nat) : Obj := .cells #[.bool d, .slice ka m kc, .slice ra q rc] 31
set_option maxRecDepth 100000 in
set_option maxHeartbeats 6400000 in
theorem Fits_any (a : Ptr) (cap : Nat) (l : List Aw) (w : World) (h : AcAt w a l) (hcap : l.length ≤ cap) :
    Calls Try.prog 10 #[.slice a l.length cap] w (SaysFit l w) := by
  have H := Lib.hid h
  have HG := Lib.hid (fun (a' : Ptr) (cap' : Nat) (l' : List Vl) (W : World) (hr : RowAt W a' l') => (goodRow_any a' cap' l' W hr).mono fun e w' h => And.intro h.1 (grown_belowT h.2 none))
  have hl := h.1
  obtain ⟨n, hn⟩ : ∃ n, n = l.length := ⟨_, rfl⟩
  have Hn := Lib.hid hn
  rw [← hn] at hcap hl ⊢
  clear h hn
  go_enter Try.func10, Try.ntmps10
  go_wp2_with fail
  go_loopw [7] (fun i wr => ∃ (j : Nat), i = .int .i64 j ∧ j ≤ n ∧ Hid ((∀ x ∈ l.take j, fitA x) ∧ w.grownBy wr none)) (fun i _ => n - (intOf i).toNat)
  case atStart => exact ⟨0, rfl, by omega, Lib.hid ⟨by simp, grown_reflT _ _⟩⟩
  case round =>
    obtain ⟨j, rfl, hj, I⟩ := hrel
    by_cases hlt : j < n
    · have hjl : j < l.length := by rw [← Hn.out]; exact hlt
      obtain ⟨⟨b, off, rfl, c0, c1, c2⟩, hk, hr⟩ := (H.out.keep (below_grownT I.out.2)).at (i := j) hjl
      have HJ := Lib.hid (And.intro hjl I.out)
      obtain ⟨x, hx⟩ : ∃ x, x = l.getD j default := ⟨_, rfl⟩
      have HX := Lib.hid hx
      rw [← hx] at c0 c1 c2 hk hr
      clear hx I hjl
      obtain ⟨d, ⟨ka, kc, kl⟩, ⟨ra, rc, rl⟩⟩ := x
      simp only [Rw.v] at c0 c1 c2 hk hr
      have i1 : (j : Int) ≤ cap := by omega
      have K1 := Lib.hid (fun W (hW : wr.grownBy W none) => HG.out ka kc kl W (hk.keep (below_grownT hW)))
      have K2 := Lib.hid (fun W (hW : wr.grownBy W none) => HG.out ra rc rl W (hr.keep (below_grownT hW)))
      obtain ⟨y, hy⟩ : ∃ y, y = kl.length := ⟨_, rfl⟩
      obtain ⟨z, hz⟩ : ∃ z, z = rl.length := ⟨_, rfl⟩
      have Hy := Lib.hid hy
      have Hz := Lib.hid hz
      rw [← hy] at c1 K1
      rw [← hz] at c2 K2
      have hy0 : y ≤ 9223372036854775807 := by rw [hy]; exact hk.1
      have hz0 : z ≤ 9223372036854775807 := by rw [hz]; exact hr.1
      clear hy hz hk hr
      have G1 := Lib.hid (World.grownBy_alloc wr (cA d ka y kc ra z rc) none)
      have GW := Lib.hid HJ.out.2.2
      have X1 := Lib.hid (fun (W : World) (hW : (wr.alloc (cA d ka y kc ra z rc)).grownBy W none) => And.intro (hW.cell (cell_of_row _ _ 0 _ _ _ (heap_alloc_new wr (cA d ka y kc ra z rc))) (by simp)) (And.intro (hW.cell (cell_of_row _ _ 1 _ _ _ (heap_alloc_new wr (cA d ka y kc ra z rc))) (by simp)) (hW.cell (cell_of_row _ _ 2 _ _ _ (heap_alloc_new wr (cA d ka y kc ra z rc))) (by simp))))
      by_cases h1 : (10 : Int) < y
      · go_wp2_with fail
        go_ret
        exact says_no (GW.out.trans G1.out)
      by_cases h2 : (10 : Int) < z
      · go_wp2_with fail
        go_ret
        exact says_no (GW.out.trans G1.out)
      generalize hg1 : kl.all Vl.good = g1 at *
      generalize hg2 : rl.all Vl.good = g2 at *
      have HG1 := Lib.hid (And.intro hg1 hg2)
      clear hg1 hg2
      go_wp2_with fail
      refine (K1.out _ G1.out).mono ?_
      rintro e w2 ⟨rfl, hg2⟩
      have G2 := Lib.hid hg2
      obtain ⟨x0, x1, x2⟩ := X1.out _ G2.out
      clear hg2 c0 c1 c2
      cases g1
      · go_wp2_with fail
        go_ret
        exact says_no (GW.out.trans (G1.out.trans G2.out))
      go_wp2_with fail
      refine (K2.out _ (G1.out.trans G2.out)).mono ?_
      rintro e w3 ⟨rfl, hg3⟩
      have G3 := Lib.hid hg3
      clear x0 x1 x2
      obtain ⟨x0, x1, x2⟩ := X1.out _ (G2.out.trans G3.out)
      clear hg3
      cases g2
      · go_wp2_with fail
        go_ret
        exact says_no (GW.out.trans ((G1.out.trans G2.out).trans G3.out))
      have HL := Lib.hid (fun (hd : d = false → z ≠ 0) => show ∀ x ∈ l.take (j + 1), fitA x from fun x hx => by
        rw [take_atA HJ.out.1, ← HX.out, List.mem_append] at hx
        rcases hx with hx | hx
        · exact HJ.out.2.1 x hx
        · obtain rfl := List.mem_singleton.1 hx
          exact ⟨by show kl.length ≤ 10; rw [← Hy.out]; omega, by show rl.length ≤ 10; rw [← Hz.out]; omega, HG1.out.1, HG1.out.2, fun h => by show rl.length ≠ 0; rw [← Hz.out]; exact hd h⟩)
      cases d
      · by_cases hz3 : z = 0
        · have hz4 : ((z : Int) == 0) = true := by simp [hz3]
          clear hz3
          go_wp2_with fail
          go_ret
          exact says_no (GW.out.trans ((G1.out.trans G2.out).trans G3.out))
        · have hz4 : ((z : Int) == 0) = false := by simp [hz3]
          have HL2 := Lib.hid (HL.out (fun _ => hz3))
          clear hz3
          go_wp2_with fail
          go_roundw
          case rel => exact ⟨j + 1, by go_num, by omega, Lib.hid ⟨HL2.out, GW.out.trans ((G1.out.trans G2.out).trans G3.out)⟩⟩
          case measure => simp [intOf]; omega
      · have HL2 := Lib.hid (HL.out (fun h => by cases h))
        go_wp2_with fail
        go_roundw
        case rel => exact ⟨j + 1, by go_num, by omega, Lib.hid ⟨HL2.out, GW.out.trans ((G1.out.trans G2.out).trans G3.out)⟩⟩
        case measure => simp [intOf]; omega
    · obtain rfl : j = n := by omega
      have h1 := I.out.1
      have G1 := Lib.hid I.out.2
      rw [Hn.out, List.take_length] at h1
      have H1 := Lib.hid h1
      clear h1 I
      go_wp2_with fail
      go_ret
      exact says_fit (fun hb => ⟨by rw [← Hn.out]; have := of_decide_eq_true hb; omega, H1.out⟩) G1.out
end Go.Proofs.Ytlmoefiajioeoaa
