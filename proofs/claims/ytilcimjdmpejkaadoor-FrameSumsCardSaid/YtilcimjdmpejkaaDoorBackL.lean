/- The law CodecBack walked: true at any rows, bytes and cut. -/
import Derived.Test.YtilcimjdmpejkaaDoorSameR
import Derived.Test.YtilcimjdmpejkaaDoorRowsW
import Derived.Test.YtilcimjdmpejkaaDoorAwake4
import Derived.Laws.AppendOwnNone
import Derived.Maps.AppendAt
namespace Go.Proofs.YtilcimjdmpejkaaDoor
open Go.RowKit

theorem OwnB.read {B : Nat} {w : World} {v : Value} {l : List UInt8} (h : OwnB B w v l) (hl : l.length ≤ 9223372036854775807) : ∃ a cap, v = .slice a l.length cap ∧ BAt w.heap.size w a l ∧ l.length ≤ cap ∧ cap ≤ 9223372036854775807 := by
  have hlt := World.ownsRow.lt h
  have hcell := fun g hg => World.ownsRow.cells h (g := g) hg
  rcases h.2 with ⟨hv, h0⟩ | ⟨g, cap, cur, hv, _, _, hc, hm, _⟩
  · have hl0 : l = [] := List.length_eq_zero_iff.1 h0
    subst hl0
    exact ⟨none, 0, hv, ⟨hl, .inl rfl⟩, by simp, by omega⟩
  · refine ⟨_, cap, hv, ⟨hl, .inr ⟨g, 0, rfl, (hlt g (by rw [hv]; rfl)).2, fun i hi => ?_⟩⟩, hc, by unfold maxLen at hm; omega⟩
    have := hcell g (by rw [hv]; rfl) i (bV (l.getD i 0)) (by simp [List.getD, hi])
    rw [add_at] at this
    exact this
theorem BAt.news {B : Nat} {w : World} {ad : Addr} {l : List UInt8} (h : BAt B w (some ad) l) : ∀ j u, (l.map bV)[j]? = some u → w.cell? (ad.add j) = some u := by
  intro j u hj
  rcases h.2 with rfl | ⟨b, off, e, _, hc⟩
  · simp at hj
  · cases e
    have hjl : j < l.length := by
      rcases Nat.lt_or_ge j l.length with h' | h'
      · exact h'
      · rw [List.getElem?_eq_none (by simpa using h')] at hj; cases hj
    rw [add_at, hc j hjl]
    simp [hjl] at hj
    rw [← hj]
    simp [List.getD, hjl]
theorem BAt.pre2 {B : Nat} {w : World} {a : Option Addr} {l : List UInt8} (h : BAt B w a l) {k : Nat} (hk : k ≤ l.length) : BAt B w a (l.take k) := by
  refine ⟨by rw [List.length_take]; have := h.1; omega, ?_⟩
  rcases h.2 with h0 | ⟨b, off, e, hlt, hc⟩
  · exact .inl (by rw [h0]; simp)
  · refine .inr ⟨b, off, e, hlt, fun i hi => ?_⟩
    rw [List.length_take] at hi
    rw [hc i (by omega)]
    simp [List.getD, show i < k by omega]
theorem own_empty (B : Nat) (w : World) (hB : B ≤ w.heap.size) : OwnB B (w.alloc (.cells #[] 5)) (.slice (some ⟨w.heap.size, 0, none⟩) 0 0) [] :=
  World.ownsRow_made w #[] 0 hB (by unfold maxLen; omega) rfl
theorem backBad_any (a b : Option Addr) (len cap blen bcap : Nat) (cut : Int) (w : World)
    (HG : Hid (∀ W : World, Below w.heap.size w W → Calls Tryd.prog 32 #[.slice a len cap] W fun e w' => e = .returned (.bool false) ∧ Below W.heap.size W w'))
    (HW : Hid (∀ w, Calls Tryd.prog 19 #[] w fun e w' => e = .returned (.bool true) ∧ Below w.heap.size w w')) :
    Calls Tryd.prog 5 #[.slice a len cap, .slice b blen bcap, .int .i64 cut] w fun e w' => e = .returned (.bool true) ∧ Below w.heap.size w w' := by
  go_enter Tryd.func5, Tryd.ntmps5
  go_wp2_with fail
  refine (HW.out _).mono ?_
  rintro e w1 ⟨rfl, hb⟩
  have K1 := Lib.hid hb
  clear hb
  go_wp2_with fail
  refine (HG.out _ K1.out).mono ?_
  rintro e w2 ⟨rfl, hb⟩
  have K2 := Lib.hid (K1.out.trans (hb.mono K1.out.size))
  clear hb
  go_wp2_with fail
  refine (HW.out _).mono ?_
  rintro e w3 ⟨rfl, hb⟩
  have K3 := Lib.hid (K2.out.trans (hb.mono K2.out.size))
  clear hb
  go_wp2_with fail
  go_ret
  exact ⟨rfl, K3.out⟩
theorem backLong_any (a b : Option Addr) (len cap blen bcap : Nat) (cut : Int) (w : World) (hbl : 5000 < blen)
    (HG : Hid (∀ W : World, Below w.heap.size w W → Calls Tryd.prog 32 #[.slice a len cap] W fun e w' => e = .returned (.bool true) ∧ Below W.heap.size W w'))
    (HW : Hid (∀ w, Calls Tryd.prog 19 #[] w fun e w' => e = .returned (.bool true) ∧ Below w.heap.size w w')) :
    Calls Tryd.prog 5 #[.slice a len cap, .slice b blen bcap, .int .i64 cut] w fun e w' => e = .returned (.bool true) ∧ Below w.heap.size w w' := by
  have hbl' : (5000 : Int) < blen := by omega
  go_enter Tryd.func5, Tryd.ntmps5
  go_wp2_with fail
  refine (HW.out _).mono ?_
  rintro e w1 ⟨rfl, hb⟩
  have K1 := Lib.hid hb
  clear hb
  go_wp2_with fail
  refine (HG.out _ K1.out).mono ?_
  rintro e w2 ⟨rfl, hb⟩
  have K2 := Lib.hid (K1.out.trans (hb.mono K1.out.size))
  clear hb
  go_wp2_with fail
  refine (HW.out _).mono ?_
  rintro e w3 ⟨rfl, hb⟩
  have K3 := Lib.hid (K2.out.trans (hb.mono K2.out.size))
  clear hb
  go_wp2_with fail
  go_ret
  exact ⟨rfl, K3.out⟩

set_option maxRecDepth 100000 in
set_option maxHeartbeats 6400000 in
theorem backGood_any (G : Nat) (a b : Option Addr) (cap bcap : Nat) (cut : Int) (ls : List Rw) (l : List UInt8) (w : World) (h : RowsLow w.heap.size w a ls) (hb : BAt w.heap.size w b l) (hS : Sent G w) (hE : ErrT G w) (hG : G ≤ w.heap.size)
    (hg : ls.all Rw.okR = true) (h1000 : ls.length ≤ 1000) (hbl : l.length ≤ 5000) (hbn : b = none → bcap = 0)
    (HG : Hid (∀ W : World, Below w.heap.size w W → Calls Tryd.prog 32 #[.slice a ls.length cap] W fun e w' => e = .returned (.bool true) ∧ Below W.heap.size W w'))
    (HW : Hid (∀ w, Calls Tryd.prog 19 #[] w fun e w' => e = .returned (.bool true) ∧ Below w.heap.size w w')) :
    Calls Tryd.prog 5 #[.slice a ls.length cap, .slice b l.length bcap, .int .i64 cut] w fun e w' => e = .returned (.bool true) ∧ Below w.heap.size w w' := by
  have HR := Lib.hid (fun W (hW : Below w.heap.size w W) => rows_any a cap ls W (h.next (grown_below hW _)) hg h1000)
  have hgood : ∀ r ∈ rwL ls, r.length ≤ 255 ∧ ∀ v ∈ r, v.good = true ∧ v.fits := by
    intro r hr
    unfold rwL at hr
    rw [List.mem_map] at hr
    obtain ⟨x, hx, rfl⟩ := hr
    obtain ⟨g1, g2⟩ := okR_good (List.all_eq_true.1 hg x hx)
    exact ⟨g2, fun v hv => ⟨g1 v hv, (h.2.1 x hx).2.1 v hv⟩⟩
  have hlen2 : (rwL ls).length < 18446744073709551616 := by unfold rwL; rw [List.length_map]; omega
  have eL : rowsB ls = rowsL (rwL ls) := rowsB_L rfl
  have hmax : (rowsB ls).length ≤ 20000010 := by
    unfold rowsB
    rw [List.length_append]
    have h1 := (numB_10 (n := ls.length) (by omega)).2
    have h2 : ∀ (xs : List Rw), (∀ x ∈ xs, x ∈ ls) → (xs.flatMap Rw.bytes).length ≤ 20000 * xs.length := by
      intro xs
      induction xs with
      | nil => intro _; simp
      | cons x xs ih =>
        intro hx
        obtain ⟨g1, g2⟩ := okR_good (List.all_eq_true.1 hg x (hx x (by simp)))
        have := rowB_len g1 (h.2.1 x (hx x (by simp))).2.1 g2
        have := ih (fun y hy => hx y (by simp [hy]))
        rw [List.flatMap_cons, List.length_append, List.length_cons]
        show (rowB x.l).length + _ ≤ _
        omega
    have := h2 ls (fun _ hx => hx)
    omega
  have hmin : 1 ≤ (rowsB ls).length := by
    unfold rowsB
    rw [List.length_append]
    have h1 := (numB_10 (n := ls.length) (by omega)).1
    omega
  have HB := Lib.hid hb
  have HL := Lib.hid h
  have HS := Lib.hid hS
  have HE := Lib.hid hE
  have HRd := Lib.hid (fun (rest : List UInt8) => eL ▸ readL_rows hlen2 hgood rest)
  have HCut := Lib.hid (fun (k : Nat) (hk : k < (rowsB ls).length) => (show readL ((rowsB ls).take k) = none from by rw [eL] at hk ⊢; exact readL_cut hlen2 hgood hk))
  obtain ⟨xs, hxs⟩ : ∃ xs, xs = rowsB ls := ⟨_, rfl⟩
  rw [← hxs] at HR HRd HCut hmax hmin
  have Hsame := Lib.hid (fun (a' : Option Addr) (c' : Nat) (rws : List Rw) (W : World) (hr : RowsLow W.heap.size W a' rws) (hW : Below w.heap.size w W) => refSameRows_any a' a c' cap rws ls W hr (h.next (grown_below hW _)))
  obtain ⟨c, hc⟩ : ∃ c : Nat, IntKind.u64.wrap cut = (c : Int) := by
    have := IntKind.wrap_u64 cut
    exact ⟨(cut % 18446744073709551616).toNat, by rw [this]; omega⟩
  obtain ⟨k, hkm, hkl⟩ : ∃ k : Nat, ((c : Int).tmod xs.length) = (k : Int) ∧ k < xs.length := ⟨c % xs.length, by rw [Int.tmod_eq_emod_of_nonneg (by omega)]; rfl, Nat.mod_lt _ (by omega)⟩
  have hk0 : (0 : Int) ≤ k := by omega
  have hk1 : (k : Int) < xs.length := by omega
  have HCk := Lib.hid (HCut.out k hkl)
  clear h hb hS hE hgood hlen2 eL hxs hg HCut
  generalize hln : ls.length = len at *
  obtain ⟨i0, hi, hz0, hz1, hz2⟩ := info_parts u8_info
  have hbl' : decide ((5000 : Int) < l.length) = false := by simp; omega
  go_enter Tryd.func5, Tryd.ntmps5
  go_wp2_with fail
  refine (HW.out _).mono ?_
  rintro e w1 ⟨rfl, hb⟩
  have K1 := Lib.hid hb
  clear hb
  go_wp2_with fail
  refine (HG.out _ K1.out).mono ?_
  rintro e w2 ⟨rfl, hb⟩
  have K2 := Lib.hid (K1.out.trans (hb.mono K1.out.size))
  clear hb
  go_wp2_with fail
  refine (HR.out _ K2.out).mono ?_
  rintro e w3 ⟨v3, rfl, ho, hb⟩
  have O3 := Lib.hid ho
  have K3 := Lib.hid (K2.out.trans (hb.mono K2.out.size))
  obtain ⟨g3, cap3, rfl, hsrc⟩ := ho.src (by omega)
  have HSrc := Lib.hid hsrc
  clear hb ho hsrc
  have hs3 : w.heap.size ≤ w3.heap.size := K3.out.size
  go_wp2_with (at_builtin; refine wpList_append_own_at _ rfl (.tmp 31) (.tmp 32) 32 rfl w.heap.size 5 i0 (.int .u8 0) 1 1 Tryd.underlying32 hi hz0 hz1 hz2 rfl (by decide) _ 0 [] rfl (own_empty w.heap.size w3 hs3) ⟨g3, 0, none⟩ xs.length cap3 (xs.map bV) rfl (by simp) (fun j u hj => by have hc := HSrc.out j u hj; exact (World.grownBy_alloc w3 _ none).cell hc (by simp)) (bV_one _) (by unfold maxLen; omega) (by omega) (by simp; omega) ?_)
  intro v4 w4 hown4 hgr4 _ hat4
  have O4 : Hid (OwnB w.heap.size w4 v4 xs) := Lib.hid hown4
  have gr34 := (World.grownBy_alloc w3 (.cells #[] 5) _).trans hgr4
  have hg3 : g3 < w3.heap.size := (World.ownsRow.lt O3.out g3 rfl).2
  have O34 := Lib.hid (World.ownsRow.kept O3.out gr34 (.inr (by
    simp only [Value.ownBlock]
    intro e
    simp at e; omega)))
  have hv4 : v4.ownBlock = none ∨ v4.ownBlock ≠ some g3 := .inr (by
    rcases hat4 with e | e <;> rw [e] <;> simp [Value.ownBlock] <;> omega)
  clear hat4
  have K4 := Lib.hid ((own_empty w.heap.size w3 hs3).grown (K3.out.alloc hs3 (.cells #[] 5)) (by simp; omega) hgr4)
  have hs4 : w.heap.size ≤ w4.heap.size := K4.out.size
  clear hown4 hgr4 gr34
  have hvb : b = none ∨ ∃ ad, b = some ad := by cases b; exact .inl rfl; exact .inr ⟨_, rfl⟩
  rcases hvb with rfl | ⟨ad, rfl⟩
  · obtain rfl : bcap = 0 := hbn rfl
    obtain rfl : l = [] := by rcases HB.out.2 with h | ⟨_, _, h, _⟩; exact h; cases h
    go_wp2_with (at_builtin; refine wpList_append_own_none rfl (.tmp 33) (.tmp 34) 32 rfl w.heap.size 5 i0 1 Tryd.underlying32 hi _ _ _ rfl O4.out rfl ?_)
    have O35 : Hid (OwnB w2.heap.size w4 (.slice (some ⟨g3, 0, none⟩) xs.length cap3) xs) := Lib.hid O34.out
    have K5 := Lib.hid K4.out
    have O5 : Hid (OwnB w.heap.size w4 v4 (xs ++ [])) := Lib.hid (by rw [List.append_nil]; exact O4.out)
    have hxl : (xs ++ []).length ≤ 30000000 := by rw [List.length_append]; omega
    obtain ⟨a5, cap5, rfl, hb5, hc5, hm5⟩ := O5.out.read (by omega)
    have hE5 : Env G w4 a5 (xs ++ []) cap5 := ⟨hb5, hc5, hm5, HS.out.none (grown_below K5.out _), HE.out.none (grown_below K5.out _), Nat.le_trans hG K5.out.size⟩
    have HRd5 := Lib.hid ((readRows_any G a5 (xs ++ []) cap5 w4 hE5 (by omega)).mono fun e w' h => And.intro (h.1.1 _ _ (HRd.out [])) (below_grown h.2))
    clear hE5 hb5
    generalize (xs ++ []).length = nxl at *
    go_wp2_with fail
    refine HRd5.out.mono ?_
    rintro e w6 ⟨⟨a6, c6, rws, rfl, hrws, hlow⟩, hb⟩
    have K6 := Lib.hid (K5.out.trans (hb.mono K5.out.size))
    have O36 := Lib.hid (O35.out.stay hb)
    have HC6 := Lib.hid (Hsame.out a6 c6 rws w6 hlow K6.out)
    have hdec : decide (rwL rws = rwL ls) = true := decide_eq_true hrws
    rw [hdec] at HC6
    clear hb hrws hlow hdec
    generalize rws.length = nr at *
    go_wp2_with fail
    refine HC6.out.mono ?_
    rintro e w7 ⟨rfl, hb⟩
    have K7 := Lib.hid (K6.out.trans (hb.mono K6.out.size))
    have O37 := Lib.hid (O36.out.stay hb)
    clear hb
    obtain ⟨a7, cap7, e7, hb7, hc7, hm7⟩ := O37.out.read (by omega)
    obtain ⟨rfl, _, rfl⟩ := Value.slice.inj e7
    have hkc : (k : Int) ≤ cap3 := by omega
    have hlk : (xs.take k).length = k := by rw [List.length_take]; omega
    have hE7 : Env G w7 (some ⟨g3, 0, none⟩) (xs.take k) cap3 := ⟨hb7.pre2 (by omega), by rw [hlk]; omega, hm7, HS.out.none (grown_below K7.out _), HE.out.none (grown_below K7.out _), Nat.le_trans hG K7.out.size⟩
    have HRd7 := (readRows_any G _ (xs.take k) cap3 w7 hE7 (by rw [hlk]; omega)).mono fun e w' h => And.intro (h.1.2 HCk.out) (below_grown h.2)
    rw [hlk] at HRd7
    have HRd8 := Lib.hid HRd7
    clear HRd7 hE7 hb7 e7 hlk
    go_wp2_with fail
    refine HRd8.out.mono ?_
    rintro e w8 ⟨rfl, hb⟩
    have K8 := Lib.hid (K7.out.trans (hb.mono K7.out.size))
    clear hb
    go_wp2_with fail
    go_ret
    exact ⟨ret_bool (by simp), K8.out⟩
  · go_wp2_with (at_builtin; refine wpList_append_own _ rfl (.tmp 33) (.tmp 34) 32 rfl w.heap.size 5 i0 (.int .u8 0) 1 1 Tryd.underlying32 hi hz0 hz1 hz2 rfl (by decide) _ _ _ rfl O4.out ad l.length bcap (l.map bV) rfl (by simp) (HB.out.keep (grown_below K4.out none) (by simp)).news (bV_one _) (by unfold maxLen; omega) (by omega) (by omega) ?_)
    intro v5 w5 hown5 hgr5 _
    have O5 := Lib.hid (OwnB.more (x := l) rfl rfl hown5)
    have O35 : Hid (OwnB w2.heap.size w5 (.slice (some ⟨g3, 0, none⟩) xs.length cap3) xs) := Lib.hid (World.ownsRow.kept O34.out hgr5 (.inr (by rcases hv4 with e | e; rw [e]; simp [Value.ownBlock]; exact fun h => e h.symm)))
    have K5 := Lib.hid (O4.out.grown K4.out (by omega) hgr5)
    clear hown5 hgr5
    have hxl : (xs ++ l).length ≤ 30000000 := by rw [List.length_append]; omega
    obtain ⟨a5, cap5, rfl, hb5, hc5, hm5⟩ := O5.out.read (by omega)
    have hE5 : Env G w5 a5 (xs ++ l) cap5 := ⟨hb5, hc5, hm5, HS.out.none (grown_below K5.out _), HE.out.none (grown_below K5.out _), Nat.le_trans hG K5.out.size⟩
    have HRd5 := Lib.hid ((readRows_any G a5 (xs ++ l) cap5 w5 hE5 (by omega)).mono fun e w' h => And.intro (h.1.1 _ _ (HRd.out l)) (below_grown h.2))
    clear hE5 hb5
    generalize (xs ++ l).length = nxl at *
    go_wp2_with fail
    refine HRd5.out.mono ?_
    rintro e w6 ⟨⟨a6, c6, rws, rfl, hrws, hlow⟩, hb⟩
    have K6 := Lib.hid (K5.out.trans (hb.mono K5.out.size))
    have O36 := Lib.hid (O35.out.stay hb)
    have HC6 := Lib.hid (Hsame.out a6 c6 rws w6 hlow K6.out)
    have hdec : decide (rwL rws = rwL ls) = true := decide_eq_true hrws
    rw [hdec] at HC6
    clear hb hrws hlow hdec
    generalize rws.length = nr at *
    go_wp2_with fail
    refine HC6.out.mono ?_
    rintro e w7 ⟨rfl, hb⟩
    have K7 := Lib.hid (K6.out.trans (hb.mono K6.out.size))
    have O37 := Lib.hid (O36.out.stay hb)
    clear hb
    obtain ⟨a7, cap7, e7, hb7, hc7, hm7⟩ := O37.out.read (by omega)
    obtain ⟨rfl, _, rfl⟩ := Value.slice.inj e7
    have hkc : (k : Int) ≤ cap3 := by omega
    have hlk : (xs.take k).length = k := by rw [List.length_take]; omega
    have hE7 : Env G w7 (some ⟨g3, 0, none⟩) (xs.take k) cap3 := ⟨hb7.pre2 (by omega), by rw [hlk]; omega, hm7, HS.out.none (grown_below K7.out _), HE.out.none (grown_below K7.out _), Nat.le_trans hG K7.out.size⟩
    have HRd7 := (readRows_any G _ (xs.take k) cap3 w7 hE7 (by rw [hlk]; omega)).mono fun e w' h => And.intro (h.1.2 HCk.out) (below_grown h.2)
    rw [hlk] at HRd7
    have HRd8 := Lib.hid HRd7
    clear HRd7 hE7 hb7 e7 hlk
    go_wp2_with fail
    refine HRd8.out.mono ?_
    rintro e w8 ⟨rfl, hb⟩
    have K8 := Lib.hid (K7.out.trans (hb.mono K7.out.size))
    clear hb
    go_wp2_with fail
    go_ret
    exact ⟨ret_bool (by simp), K8.out⟩
theorem CodecBack_any (G : Nat) (a b : Option Addr) (cap bcap : Nat) (cut : Int) (ls : List Rw) (l : List UInt8) (w : World) (h : RowsLow w.heap.size w a ls) (hb : BAt w.heap.size w b l) (hbn : b = none → bcap = 0) (hS : Sent G w) (hE : ErrT G w) (hG : G ≤ w.heap.size) :
    Calls Tryd.prog 5 #[.slice a ls.length cap, .slice b l.length bcap, .int .i64 cut] w fun e w' => e = .returned (.bool true) ∧ Below w.heap.size w w' := by
  have HG : ∀ W : World, Below w.heap.size w W → Calls Tryd.prog 32 #[.slice a ls.length cap] W fun e w' => e = .returned (.bool (ls.all Rw.okR && decide (ls.length ≤ 1000))) ∧ Below W.heap.size W w' := fun W hb => good_any a cap ls W (h.next (grown_below hb _))
  cases hg : (ls.all Rw.okR && decide (ls.length ≤ 1000))
  · rw [hg] at HG
    exact backBad_any a b _ cap _ bcap cut w (Lib.hid HG) (Lib.hid awake_any)
  · rw [hg] at HG
    rw [Bool.and_eq_true] at hg
    by_cases hl : l.length ≤ 5000
    · exact backGood_any G a b cap bcap cut ls l w h hb hS hE hG hg.1 (of_decide_eq_true hg.2) hl hbn (Lib.hid HG) (Lib.hid awake_any)
    · exact backLong_any a b _ cap _ bcap cut w (by omega) (Lib.hid HG) (Lib.hid awake_any)
end Go.Proofs.YtilcimjdmpejkaaDoor
