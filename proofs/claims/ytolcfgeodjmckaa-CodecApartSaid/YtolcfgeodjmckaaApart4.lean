/- The law CodecApart walked: true at any two rows. -/
import Derived.Test.YtolcfgeodjmckaaPrefix4
import Derived.Test.YtolcfgeodjmckaaGood4
import Derived.Deep.RegionWith
namespace Go.Proofs.Ytolcfgeodjmckaa
open Go.RowKit

theorem flat_len : ∀ {l : List Vl}, (∀ x ∈ l, x.good = true) → (∀ x ∈ l, x.fits) → (l.flatMap Vl.bytes).length ≤ 71 * l.length
  | [], _, _ => by simp
  | x :: l, g, f => by
    have h1 := valB_len (g x (by simp)) (f x (by simp))
    have h2 := flat_len (l := l) (fun z hz => g z (by simp [hz])) (fun z hz => f z (by simp [hz]))
    rw [List.flatMap_cons, List.length_append, List.length_cons]
    omega
theorem rowB_len {l : List Vl} (g : ∀ x ∈ l, x.good = true) (f : ∀ x ∈ l, x.fits) (h : l.length ≤ 255) : 1 ≤ (rowB l).length ∧ (rowB l).length ≤ 20000 := by
  unfold rowB
  rw [List.length_append]
  have := numB_10 (n := l.length) (by omega)
  have := flat_len g f
  omega
theorem okR_good {l : List Vl} {a : Option Addr} {c : Nat} (h : (Rw.mk a c l).okR = true) : (∀ x ∈ l, x.good = true) ∧ l.length ≤ 255 := by
  unfold Rw.okR at h
  rw [Bool.and_eq_true, List.all_eq_true] at h
  exact ⟨h.2, of_decide_eq_true h.1⟩
/-- Two rows laid side by side by the law itself. -/
theorem two_low (W : World) (T : TypeId) (a b : Option Addr) (c c' : Nat) (l m : List Vl) (n n' : Nat) (hn : l.length = n) (hn' : m.length = n') (h : RowLow W.heap.size W a l) (h' : RowLow W.heap.size W b m) :
    RowsLow (W.alloc (.cells #[.slice a n c, .slice b n' c'] T)).heap.size (W.alloc (.cells #[.slice a n c, .slice b n' c'] T)) (some ⟨W.heap.size, 0, none⟩) [⟨a, c, l⟩, ⟨b, c', m⟩] := by
  subst hn hn'
  have hb : Below W.heap.size W (W.alloc (.cells #[.slice a l.length c, .slice b m.length c'] T)) := (Below.refl _ _).alloc (Nat.le_refl _) _
  refine ⟨by simp, ?_, .inr ⟨W.heap.size, 0, rfl, by simp, ?_⟩⟩
  · intro r hr
    simp only [List.mem_cons, List.not_mem_nil, or_false] at hr
    rcases hr with rfl | rfl
    · exact (h.keep hb).mono (by simp)
    · exact (h'.keep hb).mono (by simp)
  · intro i hi
    simp only [List.length_cons, List.length_nil] at hi
    obtain rfl | rfl : i = 0 ∨ i = 1 := by omega
    all_goals simp

set_option maxRecDepth 100000 in
set_option maxHeartbeats 3200000 in
theorem apart_bad (a b : Option Addr) (c c' n n' : Nat) (w : World)
    (HG : Hid (∀ W : World, Below w.heap.size w W → Calls Try.prog 7 #[.slice (some ⟨W.heap.size, 0, none⟩) 2 2] (W.alloc (.cells #[.slice a n c, .slice b n' c'] 27)) fun e w' => e = .returned (.bool false) ∧ Below W.heap.size W w'))
    (HW : Hid (∀ w, Calls Try.prog 6 #[] w fun e w' => e = .returned (.bool true) ∧ Below w.heap.size w w')) :
    Calls Try.prog 4 #[.slice a n c, .slice b n' c'] w fun e w' => e = .returned (.bool true) ∧ Below w.heap.size w w' := by
  go_enter Try.func4, Try.ntmps4
  go_wp2_with fail
  refine (HW.out _).mono ?_
  rintro e w1 ⟨rfl, hb⟩
  have K1 := Lib.hid hb
  clear hb
  go_wp2_with fail
  refine (HG.out _ K1.out).mono ?_
  rintro e w2 ⟨rfl, hb⟩
  have K2 := Lib.hid (K1.out.trans (hb.mono K1.out.size))
  clear hb
  go_wp2_with fail
  refine (HW.out _).mono ?_
  rintro e w3 ⟨rfl, hb⟩
  have K3 := Lib.hid (K2.out.trans (hb.mono K2.out.size))
  clear hb
  go_wp2_with fail
  go_ret
  exact ⟨rfl, K3.out⟩

set_option maxRecDepth 100000 in
set_option maxHeartbeats 6400000 in
theorem apart_gen (a b : Option Addr) (c c' n n' : Nat) (xs ys : List UInt8) (same : Bool) (w : World) (hx : 0 < xs.length) (hy : 0 < ys.length)
    (HG : Hid (∀ W : World, Below w.heap.size w W → Calls Try.prog 7 #[.slice (some ⟨W.heap.size, 0, none⟩) 2 2] (W.alloc (.cells #[.slice a n c, .slice b n' c'] 27)) fun e w' => e = .returned (.bool true) ∧ Below W.heap.size W w'))
    (HA : Hid (∀ W : World, Below w.heap.size w W → Calls Try.prog 8 #[.slice a n c] W (Adds W.heap.size W xs)))
    (HB : Hid (∀ W : World, Below w.heap.size w W → Calls Try.prog 8 #[.slice b n' c'] W (Adds W.heap.size W ys)))
    (HS : Hid (∀ W : World, Below w.heap.size w W → Calls Try.prog 18 #[.slice a n c, .slice b n' c'] W fun e w' => e = .returned (.bool same) ∧ Below W.heap.size W w'))
    (HP : Hid (same = false → ∀ w, Calls Try.prog 19 #[.string ⟨xs.toArray⟩, .string ⟨ys.toArray⟩] w fun e w' => e = .returned (.bool false) ∧ w = w'))
    (HQ : Hid (same = false → ∀ w, Calls Try.prog 19 #[.string ⟨ys.toArray⟩, .string ⟨xs.toArray⟩] w fun e w' => e = .returned (.bool false) ∧ w = w'))
    (HE : Hid (same = true → xs = ys))
    (HW : Hid (∀ w, Calls Try.prog 6 #[] w fun e w' => e = .returned (.bool true) ∧ Below w.heap.size w w')) :
    Calls Try.prog 4 #[.slice a n c, .slice b n' c'] w fun e w' => e = .returned (.bool true) ∧ Below w.heap.size w w' := by
  go_enter Try.func4, Try.ntmps4
  go_wp2_with fail
  refine (HW.out _).mono ?_
  rintro e w1 ⟨rfl, hb⟩
  have K1 := Lib.hid hb
  clear hb
  go_wp2_with fail
  refine (HG.out _ K1.out).mono ?_
  rintro e w2 ⟨rfl, hb⟩
  have K2 := Lib.hid (K1.out.trans (hb.mono K1.out.size))
  clear hb
  go_wp2_with fail
  go_region_with (first | (go_at_call_of 8 (Value.slice a n c); (with_reducible refine (HA.out _ (by first | exact K2.out | exact K2.out.drew)).mono ?_); rintro e w3 ⟨v1, rfl, ho1, hb1⟩; have hc1 := own_string ho1 hx; have K3 := Lib.hid (K2.out.trans (((Below.refl _ _).drew.trans hb1).mono K2.out.size))) | (go_at_call_of 8 (Value.slice b n' c'); (with_reducible refine (HB.out _ K3.out).mono ?_); rintro e w4 ⟨v2, rfl, ho2, hb2⟩; have hc2 := own_string ho2 hy; have hc3 := own_string (ho1.stay hb2) hx; have K4 := Lib.hid (K3.out.trans (hb2.mono K3.out.size))))
  all_goals
    clear ho1 ho2 hb1 hb2
    go_wp2_with fail
    refine (HS.out _ K4.out).mono ?_
    rintro e w5 ⟨rfl, hb5⟩
    have K5 := Lib.hid (K4.out.trans (hb5.mono K4.out.size))
    clear hb5
    cases same
    · have HP := HP.out rfl
      have HQ := HQ.out rfl
      have HP' := Lib.hid HP
      have HQ' := Lib.hid HQ
      clear HP HQ
      go_wp2_with fail
      refine (HP'.out _).mono ?_
      rintro e w6 ⟨rfl, rfl⟩
      go_wp2_with fail
      refine (HQ'.out _).mono ?_
      rintro e w6 ⟨rfl, rfl⟩
      go_wp2_with fail
      go_ret
      exact ⟨rfl, K5.out⟩
    · obtain rfl := HE.out rfl
      go_wp2_with fail
      go_ret
      exact ⟨ret_bool (by simp), K5.out⟩

theorem low_at {w W : World} {a : Option Addr} {l : List Vl} (h : RowLow w.heap.size w a l) (hb : Below w.heap.size w W) : RowLow W.heap.size W a l := (h.keep hb).mono hb.size
theorem CodecApart_any (a : Option Addr) (c : Nat) (l : List Vl) (b : Option Addr) (c' : Nat) (m : List Vl) (w : World) (h : RowLow w.heap.size w a l) (h' : RowLow w.heap.size w b m) :
    Calls Try.prog 4 #[.slice a l.length c, .slice b m.length c'] w fun e w' => e = .returned (.bool true) ∧ Below w.heap.size w w' := by
  have HG : ∀ W : World, Below w.heap.size w W → Calls Try.prog 7 #[.slice (some ⟨W.heap.size, 0, none⟩) 2 2] (W.alloc (.cells #[.slice a l.length c, .slice b m.length c'] 27)) fun e w' => e = .returned (.bool (([⟨a, c, l⟩, ⟨b, c', m⟩] : List Rw).all Rw.okR)) ∧ Below W.heap.size W w' := fun W hb =>
    (good_any (some ⟨W.heap.size, 0, none⟩) 2 [⟨a, c, l⟩, ⟨b, c', m⟩] _ (two_low W 27 a b c c' l m _ _ rfl rfl (low_at h hb) (low_at h' hb))).mono fun e w' ⟨h1, h2⟩ => ⟨by rw [h1]; simp, ((Below.refl _ _).alloc (Nat.le_refl _) _).trans (h2.mono (by simp))⟩
  cases hg : ([⟨a, c, l⟩, ⟨b, c', m⟩] : List Rw).all Rw.okR
  · rw [hg] at HG
    exact apart_bad a b c c' _ _ w (Lib.hid HG) (Lib.hid awake_any)
  · rw [hg] at HG
    rw [List.all_eq_true] at hg
    obtain ⟨gl, l255⟩ := okR_good (hg ⟨a, c, l⟩ (by simp))
    obtain ⟨gm, m255⟩ := okR_good (hg ⟨b, c', m⟩ (by simp))
    have bl := rowB_len gl h.2.1 l255
    have bm := rowB_len gm h'.2.1 m255
    exact apart_gen a b c c' _ _ (rowB l) (rowB m) (decide (l = m)) w (by omega) (by omega) (Lib.hid HG)
      (Lib.hid fun W hb => row_any a c l W (low_at h hb) gl l255) (Lib.hid fun W hb => row_any b c' m W (low_at h' hb) gm m255)
      (Lib.hid fun W hb => refSame_any a b c c' l m W (low_at h hb) (low_at h' hb))
      (Lib.hid fun hs w => prefix_no _ _ w (row_apart gm gl (fun e => of_decide_eq_false hs e.symm)))
      (Lib.hid fun hs w => prefix_no _ _ w (row_apart gl gm (of_decide_eq_false hs)))
      (Lib.hid fun hs => by rw [of_decide_eq_true hs]) (Lib.hid awake_any)
end Go.Proofs.Ytolcfgeodjmckaa
