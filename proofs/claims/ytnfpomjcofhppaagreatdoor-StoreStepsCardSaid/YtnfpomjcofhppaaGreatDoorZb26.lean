/- The store's keyOf. -/
import Derived.Test.YtnfpomjcofhppaaGreatDoorZb25
namespace Go.Proofs.YtnfpomjcofhppaaGreatDoor
open Go.RowKit

/-- An operation. -/
structure Om where
  k : Int
  n : ByteArray
  r : Rw
instance : Inhabited Om := ⟨⟨0, ⟨#[]⟩, default⟩⟩
def Om.v (o : Om) : Value := .agg #[.int .i64 o.k, .string o.n, .slice o.r.a o.r.l.length o.r.cap]
open Classical in
/-- The key that an operation is done at, if its row is right. -/
noncomputable def keyM (t : Tb) (o : Om) : Option (List Vl) :=
  if o.k = 2 then (if FitsV (t.l.take t.k.toNat) o.r.l then some o.r.l else none) else (if FitsV t.l o.r.l then some (o.r.l.take t.k.toNat) else none)
def KeyOf (S : Nat → Prop) (km : Option (List Vl)) (w : World) (e : Ending) (w' : World) : Prop :=
  ((∃ key ka kc, km = some key ∧ e = .returned (.tuple #[.slice ka (List.length key) kc, .int .i64 0]) ∧ RwS (fun b => S b ∨ w.heap.size ≤ b) w' ka key) ∨ (km = none ∧ ∃ a n c, e = .returned (.tuple #[.slice a n c, .int .i64 20]))) ∧ w.grownBy w' none
abbrev cTb (N : ByteArray) (a : Option Addr) (n c : Nat) (K : Int) : Obj := .cells #[.string N, .slice a n c, .int .i64 K] 50
abbrev cOp (k : Int) (n : ByteArray) (a : Option Addr) (q c : Nat) : Obj := .cells #[.int .i64 k, .string n, .slice a q c] 70
set_option maxRecDepth 100000 in
set_option maxHeartbeats 6400000 in
theorem keyOf_any (S S' : Nat → Prop) (t : Tb) (o : Om) (kn : Nat) (w : World) (ht : ClsS S w t.a t.l) (hk : t.k = kn) (h1 : 1 ≤ kn) (h2 : kn ≤ t.l.length) (h3 : t.l.length ≤ t.cap) (hr : RwS S' w o.r.a o.r.l) (hrc : o.r.l.length ≤ o.r.cap) :
    Calls Tryz.prog 76 #[.agg #[.string t.n, .slice t.a t.l.length t.cap, .int .i64 t.k], o.v] w (KeyOf S' (keyM t o) w) := by
  obtain ⟨tn, ta, tc, tl, tk⟩ := t
  obtain ⟨ok, on, ⟨ra, rc, rl⟩⟩ := o
  simp only [Om.v] at *
  subst hk
  obtain ⟨ad, rfl⟩ : ∃ ad, ta = some ad := by
    rcases ht.2 with h0 | ⟨b, off, e, _⟩
    · rw [h0] at h2; simp at h2; omega
    · exact ⟨_, e⟩
  unfold keyM
  simp only [Int.toNat_natCast]
  have hKy := Lib.hid (fun W (hW : w.grownBy W none) => key_any S tn kn ad ra tc rc tl rl W (ht.keep (.of hW)) (hr.row.keep (below_grownT hW)) h2 h3)
  have hRo := Lib.hid (fun W (hW : w.grownBy W none) => row_any6 tn (kn : Int) (some ad) ra tc rc tl (rl.map vvOf) W (ht.keep (.of hW)).cols (vv_at (hr.row.keep (below_grownT hW))))
  have hOf : Hid (FitsV tl rl → ∀ W, w.grownBy W none → Calls Tryz.prog 91 #[.agg #[.string tn, .slice (some ad) tl.length tc, .int .i64 (kn : Int)], .slice ra rl.length rc] W fun e w' => (∃ a' c', e = .returned (.slice a' kn c') ∧ RwS (fun b => W.heap.size ≤ b) w' a' (rl.take kn)) ∧ W.grownBy w' none) := Lib.hid fun hf W hW => by
    have hl := hf.len
    obtain ⟨rad, hra⟩ : ∃ ad, ra = some ad := by
      rcases hr.2.2 with h0 | ⟨b, off, e, _⟩
      · rw [h0] at hl; simp at hl; omega
      · exact ⟨_, e⟩
    rw [hra] at hr ⊢
    exact of_any tn kn (some ad) tl.length tc rad rc rl W (hr.row.keep (below_grownT hW)) (by omega) hrc hr.1
  have hTk : Hid (FitsV tl rl → (rl.take kn).length = kn) := Lib.hid fun hf => by rw [List.length_take, hf.len]; omega
  have Hr := Lib.hid hr
  rw [List.length_map] at hRo
  obtain ⟨m, hm⟩ : ∃ m, m = tl.length := ⟨_, rfl⟩
  obtain ⟨q, hq⟩ : ∃ q, q = rl.length := ⟨_, rfl⟩
  have Hq := Lib.hid hq
  rw [← hm] at hKy hRo hOf ⊢
  rw [← hq] at hKy hRo hOf ⊢
  clear ht h1 h2 h3 hr hrc hm hq
  have B1 := box3_new6 w (.string tn) (.slice (some ad) m tc) (.int .i64 (kn : Int)) 50
  have B2 := box3_new6 (w.alloc (cTb tn (some ad) m tc kn)) (.int .i64 ok) (.string on) (.slice ra q rc) 70
  have hs1 : (w.alloc (cTb tn (some ad) m tc kn)).heap.size = w.heap.size + 1 := by simp
  rw [hs1] at B2
  have GA := (World.grownBy_alloc w (cTb tn (some ad) m tc kn) none).trans (World.grownBy_alloc _ (cOp ok on ra q rc) none)
  have g1 := World.grownBy_alloc (w.alloc (cTb tn (some ad) m tc kn)) (cOp ok on ra q rc) none
  have F := Lib.hid (fun W (hW : ((w.alloc (cTb tn (some ad) m tc kn)).alloc (cOp ok on ra q rc)).grownBy W none) => show (W.cell? ⟨w.heap.size, 0, none⟩ = some (.string tn) ∧ W.cell? ⟨w.heap.size, 1, none⟩ = some (.slice (some ad) m tc) ∧ W.cell? ⟨w.heap.size, 2, none⟩ = some (.int .i64 (kn : Int))) ∧ W.cell? ⟨w.heap.size + 1, 2, none⟩ = some (.slice ra q rc) from ⟨⟨hW.cell (g1.cell B1.1 (by simp)) (by simp), hW.cell (g1.cell B1.2.1 (by simp)) (by simp), hW.cell (g1.cell B1.2.2 (by simp)) (by simp)⟩, hW.cell B2.2.2 (by simp)⟩)
  have K0 := Lib.hid GA
  obtain ⟨⟨b0, b1, b2⟩, b3⟩ := F.out _ (grown_reflT _ _)
  clear B1 B2 GA g1 hs1
  by_cases h2 : ok = 2
  · subst h2
    rw [if_pos rfl]
    by_cases hf : FitsV (tl.take kn) rl
    · rw [if_pos hf]
      have HK := Lib.hid (fun W hW => (hKy.out W hW).mono fun e w' h => And.intro (h.1.1 hf) h.2)
      clear hf
      go_enter Tryz.func76, Tryz.ntmps76
      go_wp2_with fail
      go_region_with (go_at_call 89; (with_reducible refine (HK.out _ (by first | exact grown_drewT K0.out | exact K0.out)).mono ?_); rintro e w2 ⟨rfl, hg2⟩; have G2 := Lib.hid ((grown_drewT K0.out).trans hg2); have e3 := (F.out _ ((grown_drewT (grown_reflT _ none)).trans hg2)).2; clear hg2)
      all_goals
        go_wp2_with fail
        go_ret2
        exact ⟨.inl ⟨rl, ra, rc, rfl, by rw [← Hq.out]; rfl, (Hr.out.mono (fun b _ h => .inl h)).keep (.of G2.out)⟩, G2.out⟩
    · rw [if_neg hf]
      have HK := Lib.hid (fun W hW => (hKy.out W hW).mono fun e w' h => And.intro (h.1.2 hf) h.2)
      clear hf
      go_enter Tryz.func76, Tryz.ntmps76
      go_wp2_with fail
      go_region_with (go_at_call 89; (with_reducible refine (HK.out _ (by first | exact grown_drewT K0.out | exact K0.out)).mono ?_); rintro e w2 ⟨rfl, hg2⟩; have G2 := Lib.hid ((grown_drewT K0.out).trans hg2); have e3 := (F.out _ ((grown_drewT (grown_reflT _ none)).trans hg2)).2; clear hg2)
      all_goals
        go_wp2_with fail
        go_ret2
        exact ⟨.inr ⟨rfl, _, _, _, rfl⟩, G2.out⟩
  · rw [if_neg h2]
    have h2' : (ok == 2) = false := by simpa using h2
    clear h2
    by_cases hf : FitsV tl rl
    · rw [if_pos hf]
      have HK := Lib.hid (fun W hW => (hRo.out W hW).mono fun e w' h => And.intro (h.1.1 hf) h.2)
      have HO := Lib.hid (hOf.out hf)
      have HT := Lib.hid (hTk.out hf)
      clear hf
      go_enter Tryz.func76, Tryz.ntmps76
      go_wp2_with fail
      refine (HK.out _ K0.out).mono ?_
      rintro e w2 ⟨rfl, hg2⟩
      obtain ⟨⟨d0, d1, d2⟩, d3⟩ := F.out _ hg2
      have G2 := Lib.hid (K0.out.trans hg2)
      clear hg2 b0 b1 b2 b3
      go_wp2_with fail
      refine (HO.out _ G2.out).mono ?_
      rintro e w3 ⟨⟨a', c', rfl, hrw⟩, hg3⟩
      have G3 := Lib.hid (And.intro hrw hg3)
      clear hg3 hrw
      go_wp2_with fail
      go_ret2
      exact ⟨.inl ⟨rl.take kn, a', c', rfl, by rw [HT.out]; rfl, G3.out.1.mono (fun b _ h => .inr (Nat.le_trans G2.out.size h))⟩, G2.out.trans G3.out.2⟩
    · rw [if_neg hf]
      have HK := Lib.hid (fun W hW => (hRo.out W hW).mono fun e w' h => And.intro (h.1.2 hf) h.2)
      clear hf
      go_enter Tryz.func76, Tryz.ntmps76
      go_wp2_with fail
      refine (HK.out _ K0.out).mono ?_
      rintro e w2 ⟨rfl, hg2⟩
      have G2 := Lib.hid (K0.out.trans hg2)
      clear hg2
      go_wp2_with fail
      go_ret2
      exact ⟨.inr ⟨rfl, _, _, _, rfl⟩, G2.out⟩
end Go.Proofs.YtnfpomjcofhppaaGreatDoor
