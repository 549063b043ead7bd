/- The document's sameItems. The document's SamePred. -/
import Derived.Test.YtppigamibgefaaaGreatDoorZp24
import Derived.Test.YtppigamibgefaaaGreatDoorZp18
import Derived.Test.YtppigamibgefaaaGreatDoorZp27
namespace Go.Proofs.YtppigamibgefaaaGreatDoor
open Go.RowKit

def Itm.likeP (p : Bool) (x y : Itm) : Prop := x.agg = y.agg ∧ x.col = y.col ∧ (p = true → x.pos = y.pos)
set_option maxHeartbeats 3200000 in
theorem refItems_any (p : Bool) (S : Nat → Prop) (a a' : Ptr) (cap cap' : Nat) (l m : List Itm) (w : World) (h : CellsS S w a (l.flatMap Itm.c)) (h' : CellsS S w a' (m.flatMap Itm.c)) (hl : l.length ≤ 1000000) :
    Calls Tryz.prog 34 #[.slice a l.length cap, .slice a' m.length cap', .bool p] w fun e w' => BoolIs (l.length = m.length ∧ ∀ i, i < l.length → Itm.likeP p (l.getD i default) (m.getD i default)) e ∧ w.grownBy w' none := by
  by_cases hll : l.length = m.length
  · have H := Lib.hid h
    have H' := Lib.hid h'
    have HL := Lib.hid hll
    rw [← hll]
    obtain ⟨n, hn⟩ : ∃ n, n = l.length := ⟨_, rfl⟩
    have Hn := Lib.hid hn
    rw [← hn] at hl ⊢
    clear h h' hll hn
    cases p with
    | true =>
      go_enter Tryz.func34, Tryz.ntmps34
      go_wp2_with fail
      go_loopw [15] (fun i wr => ∃ (k : Nat), i = .int .i64 k ∧ k ≤ n ∧ Hid (∀ j, j < k → Itm.likeP true (l.getD j default) (m.getD j default)) ∧ Hid (w.grownBy wr none)) (fun i _ => n - (intOf i).toNat)
      case atStart => exact ⟨0, rfl, by omega, Lib.hid (fun i hi => by omega), Lib.hid (grown_reflX _ _)⟩
      case round =>
        obtain ⟨k, rfl, hk, E, K⟩ := hrel
        by_cases hlt : k < n
        · obtain ⟨b, off, rfl, _, hb, hc⟩ := (H.out.keep (.of K.out)).elem Itm.c_len (by decide) (i := k) (by rw [← Hn.out]; exact hlt)
          obtain ⟨b', off', rfl, _, hb', hc'⟩ := (H'.out.keep (.of K.out)).elem Itm.c_len (by decide) (i := k) (by rw [← HL.out, ← Hn.out]; exact hlt)
          obtain ⟨x, hx⟩ : ∃ x, x = l.getD k default := ⟨_, rfl⟩
          obtain ⟨y, hy⟩ : ∃ y, y = m.getD k default := ⟨_, rfl⟩
          rw [← hx] at hc
          rw [← hy] at hc'
          have E2 : Hid (Itm.likeP true x y → ∀ j, j < k + 1 → Itm.likeP true (l.getD j default) (m.getD j default)) := Lib.hid fun h j hj => by
            by_cases e : j = k
            · rw [e, ← hx, ← hy]; exact h
            · exact E.out j (by omega)
          have E3 : Hid (¬ Itm.likeP true x y → ¬ ∀ j, j < n → Itm.likeP true (l.getD j default) (m.getD j default)) := Lib.hid fun h hA => h (by
            have := hA k hlt
            rwa [← hx, ← hy] at this)
          clear hx hy
          obtain ⟨xa, xc, xp⟩ := x
          obtain ⟨ya, yc, yp⟩ := y
          have c0 := hc 0 _ rfl
          have d0 := hc' 0 _ rfl
          have c1 := hc 1 _ rfl
          have d1 := hc' 1 _ rfl
          have c2 := hc 2 _ rfl
          have d2 := hc' 2 _ rfl
          clear hc hc'
          rw [Nat.add_zero] at c0 d0
          by_cases h1 : xa = ya
          · subst h1
            by_cases h2 : xc = yc
            · subst h2
              by_cases h3 : xp = yp
              · subst h3
                go_wp2_with fail
                go_quiet (fail)
                go_wp2_with fail
                go_roundw
                case rel => exact ⟨k + 1, by go_num, by omega, Lib.hid (E2.out (by simp [Itm.likeP])), Lib.hid (grown_drewNT K.out _)⟩
                case measure => simp [intOf]; omega
              · have e3 := nat_eqf h3
                have e3' : ((xp : Int) != (yp : Int)) = true := by rw [bne_iff_ne]; omega
                have HN := Lib.hid h3
                clear h3
                go_wp2_with fail
                go_quiet (fail)
                go_wp2_with fail
                go_ret
                exact ⟨⟨false, rfl, by
                  constructor
                  · intro h; cases h
                  · intro h; exact absurd h.2 (E3.out (by simp [Itm.likeP, HN.out]))⟩, grown_drewNT K.out _⟩
            · have e2 := str_ne h2
              have HN := Lib.hid h2
              clear h2
              go_wp2_with fail
              go_quiet (fail)
              go_wp2_with fail
              go_ret
              exact ⟨⟨false, rfl, by
                constructor
                · intro h; cases h
                · intro h; exact absurd h.2 (E3.out (by simp [Itm.likeP, HN.out]))⟩, grown_drewNT K.out _⟩
          · have e1 := nat_eqf h1
            have e1' : ((xa : Int) != (ya : Int)) = true := by rw [bne_iff_ne]; omega
            have HN := Lib.hid h1
            clear h1
            go_wp2_with fail
            go_quiet (fail)
            go_wp2_with fail
            go_ret
            exact ⟨⟨false, rfl, by
              constructor
              · intro h; cases h
              · intro h; exact absurd h.2 (E3.out (by simp [Itm.likeP, HN.out]))⟩, grown_drewNT K.out _⟩
        · obtain rfl : k = n := by omega
          go_wp2_with fail
          go_ret
          exact ⟨⟨true, rfl, by
            constructor
            · intro _; exact ⟨by first | trivial | rfl, E.out⟩
            · intro _; rfl⟩, K.out⟩
    | false =>
      go_enter Tryz.func34, Tryz.ntmps34
      go_wp2_with fail
      go_loopw [15] (fun i wr => ∃ (k : Nat), i = .int .i64 k ∧ k ≤ n ∧ Hid (∀ j, j < k → Itm.likeP false (l.getD j default) (m.getD j default)) ∧ Hid (w.grownBy wr none)) (fun i _ => n - (intOf i).toNat)
      case atStart => exact ⟨0, rfl, by omega, Lib.hid (fun i hi => by omega), Lib.hid (grown_reflX _ _)⟩
      case round =>
        obtain ⟨k, rfl, hk, E, K⟩ := hrel
        by_cases hlt : k < n
        · obtain ⟨b, off, rfl, _, hb, hc⟩ := (H.out.keep (.of K.out)).elem Itm.c_len (by decide) (i := k) (by rw [← Hn.out]; exact hlt)
          obtain ⟨b', off', rfl, _, hb', hc'⟩ := (H'.out.keep (.of K.out)).elem Itm.c_len (by decide) (i := k) (by rw [← HL.out, ← Hn.out]; exact hlt)
          obtain ⟨x, hx⟩ : ∃ x, x = l.getD k default := ⟨_, rfl⟩
          obtain ⟨y, hy⟩ : ∃ y, y = m.getD k default := ⟨_, rfl⟩
          rw [← hx] at hc
          rw [← hy] at hc'
          have E2 : Hid (Itm.likeP false x y → ∀ j, j < k + 1 → Itm.likeP false (l.getD j default) (m.getD j default)) := Lib.hid fun h j hj => by
            by_cases e : j = k
            · rw [e, ← hx, ← hy]; exact h
            · exact E.out j (by omega)
          have E3 : Hid (¬ Itm.likeP false x y → ¬ ∀ j, j < n → Itm.likeP false (l.getD j default) (m.getD j default)) := Lib.hid fun h hA => h (by
            have := hA k hlt
            rwa [← hx, ← hy] at this)
          clear hx hy
          obtain ⟨xa, xc, xp⟩ := x
          obtain ⟨ya, yc, yp⟩ := y
          have c0 := hc 0 _ rfl
          have d0 := hc' 0 _ rfl
          have c1 := hc 1 _ rfl
          have d1 := hc' 1 _ rfl
          have c2 := hc 2 _ rfl
          have d2 := hc' 2 _ rfl
          clear hc hc'
          rw [Nat.add_zero] at c0 d0
          by_cases h1 : xa = ya
          · subst h1
            by_cases h2 : xc = yc
            · subst h2
              go_wp2_with fail
              go_quiet (fail)
              go_wp2_with fail
              go_roundw
              case rel => exact ⟨k + 1, by go_num, by omega, Lib.hid (E2.out (by simp [Itm.likeP])), Lib.hid (grown_drewNT K.out _)⟩
              case measure => simp [intOf]; omega
            · have e2 := str_ne h2
              have HN := Lib.hid h2
              clear h2
              go_wp2_with fail
              go_quiet (fail)
              go_wp2_with fail
              go_ret
              exact ⟨⟨false, rfl, by
                constructor
                · intro h; cases h
                · intro h; exact absurd h.2 (E3.out (by simp [Itm.likeP, HN.out]))⟩, grown_drewNT K.out _⟩
          · have e1 := nat_eqf h1
            have e1' : ((xa : Int) != (ya : Int)) = true := by rw [bne_iff_ne]; omega
            have HN := Lib.hid h1
            clear h1
            go_wp2_with fail
            go_quiet (fail)
            go_wp2_with fail
            go_ret
            exact ⟨⟨false, rfl, by
              constructor
              · intro h; cases h
              · intro h; exact absurd h.2 (E3.out (by simp [Itm.likeP, HN.out]))⟩, grown_drewNT K.out _⟩
        · obtain rfl : k = n := by omega
          go_wp2_with fail
          go_ret
          exact ⟨⟨true, rfl, by
            constructor
            · intro _; exact ⟨by first | trivial | rfl, E.out⟩
            · intro _; rfl⟩, K.out⟩
  · have hd : ((l.length : Int) != (m.length : Int)) = true := by rw [bne_iff_ne]; omega
    have HN := Lib.hid hll
    clear h h' hll hl
    generalize l.length = n1 at *
    generalize m.length = n2 at *
    go_enter Tryz.func34, Tryz.ntmps34
    go_wp2_with fail
    go_ret
    exact ⟨⟨false, rfl, by simp [HN.out]⟩, grown_reflX _ _⟩
end Go.Proofs.YtppigamibgefaaaGreatDoor
namespace Go.Proofs.YtppigamibgefaaaGreatDoor
open Go.RowKit

theorem ns_mem : ∀ {l : List Pm} {i : Nat}, i < l.length → (l.getD i default).n ≤ Pm.ns l
  | x :: r, 0, _ => by rw [Pm.ns]; simp [List.getD]
  | x :: r, i + 1, h => by
    have := ns_mem (l := r) (i := i) (by simpa using h)
    rw [Pm.ns]
    simp only [List.getD, List.getElem?_cons_succ] at this ⊢
    omega
theorem map_z_iff (p : Bool) : ∀ l m : List Pm, l.map (Pm.z p) = m.map (Pm.z p) ↔ l.length = m.length ∧ ∀ i, i < l.length → (l.getD i default).z p = (m.getD i default).z p
  | [], [] => by simp
  | [], _ :: _ => by simp
  | _ :: _, [] => by simp
  | x :: l, y :: m => by
    rw [List.map_cons, List.map_cons, List.cons.injEq, map_z_iff p l m]
    constructor
    · rintro ⟨h1, h2, h3⟩
      refine ⟨by simp [h2], fun i hi => ?_⟩
      cases i with
      | zero => exact h1
      | succ i => exact h3 i (by simpa using hi)
    · rintro ⟨h2, h3⟩
      exact ⟨h3 0 (by simp), by simpa using h2, fun i hi => h3 (i + 1) (by simpa using hi)⟩
set_option maxRecDepth 100000 in
set_option maxHeartbeats 12800000 in
theorem refSamePred_false (S : Nat → Prop) : ∀ (N : Nat) (x y : Pm) (w : World), x.n ≤ N → x.n ≤ 1000 → PmS S w x → PmS S w y →
    Calls Tryz.prog 17 #[.agg x.c.toArray, .agg y.c.toArray, .bool false] w fun e w' => BoolIs (x.z false = y.z false) e ∧ w.grownBy w' none
  | 0, .mk _ _ _ _ _ _ _ _ _ _ _ _, _, _, hN, _, _, _ => by simp [Pm.n] at hN
  | N + 1, x, y, w, hN, hK, hx, hy => by
    have HZ := Lib.hid (Pm.z_eq false x y)
    have HIH := Lib.hid (fun i (hi : i < x.kids.length) (h' : x.kids.length = y.kids.length) W (hW : w.grownBy W none) => refSamePred_false S N (x.kids.getD i default) (y.kids.getD i default) W (by
      have := ns_mem hi
      rw [Pm.n_eq] at hN
      omega) (by
      have := ns_mem hi
      rw [Pm.n_eq] at hK
      omega) (((PmSs_iff x.kids).1 (by cases x; exact hx.2.2.2.2) _ (by rw [List.getD, List.getElem?_eq_getElem hi]; exact List.getElem_mem hi)).keep (.of hW)) (((PmSs_iff y.kids).1 (by cases y; exact hy.2.2.2.2) _ (by rw [List.getD, List.getElem?_eq_getElem (show i < y.kids.length by omega)]; exact List.getElem_mem (show i < y.kids.length by omega))).keep (.of hW)))
    have hks : x.kids.length ≤ 1000 := by
      have h0 : ∀ l : List Pm, l.length ≤ Pm.ns l := fun l => by
        induction l with
        | nil => simp
        | cons x r ih => rw [List.length_cons, Pm.ns, Pm.n_eq]; omega
      have := h0 x.kids
      rw [Pm.n_eq] at hK
      omega
    obtain ⟨k1, c1, r1, ⟨vk1, vn1, vs1⟩, o1, la1, lc1, l1, ka1, kc1, ks1, p1⟩ := x
    obtain ⟨k2, c2, r2, ⟨vk2, vn2, vs2⟩, o2, la2, lc2, l2, ka2, kc2, ks2, p2⟩ := y
    simp only [Pm.kids] at HIH hks HZ
    have HQ := Lib.hid (fun W (hW : w.grownBy W none) => refSame_any la1 la2 lc1 lc2 l1 l2 W ((hx.keep (.of hW)).1.row) ((hy.keep (.of hW)).1.row))
    have HC1 := Lib.hid (fun W (hW : w.grownBy W none) => (hx.keep (.of hW)).2.2.1)
    have HC2 := Lib.hid (fun W (hW : w.grownBy W none) => (hy.keep (.of hW)).2.2.1)
    show Calls Tryz.prog 17 #[.agg #[.int .i64 (k1 : Nat), .string c1, .int .i64 (r1 : Nat), .int .i64 vk1, .int .i64 vn1, .string vs1, .string o1, .slice la1 l1.length lc1, .slice ka1 ks1.length kc1, .int .i64 (p1 : Nat)], .agg #[.int .i64 (k2 : Nat), .string c2, .int .i64 (r2 : Nat), .int .i64 vk2, .int .i64 vn2, .string vs2, .string o2, .slice la2 l2.length lc2, .slice ka2 ks2.length kc2, .int .i64 (p2 : Nat)], .bool false] w _
    have HL : Hid (∀ b : Bool, (b = true ↔ (k1 = k2 ∧ c1 = c2 ∧ r1 = r2 ∧ vk1 = vk2 ∧ vn1 = vn2 ∧ vs1 = vs2 ∧ o1 = o2 ∧ l1 = l2 ∧ (false = true → p1 = p2)) ∧ ks1.length = ks2.length ∧ ∀ i, i < ks1.length → (ks1.getD i default).z false = (ks2.getD i default).z false) → (b = true ↔ (.mk k1 c1 r1 ⟨vk1, vn1, vs1⟩ o1 la1 lc1 l1 ka1 kc1 ks1 p1 : Pm).z false = (.mk k2 c2 r2 ⟨vk2, vn2, vs2⟩ o2 la2 lc2 l2 ka2 kc2 ks2 p2 : Pm).z false)) := Lib.hid (fun b h => by
      rw [h, HZ.out, map_z_iff]
      simp only [Pm.like, Vl.mk.injEq, and_assoc])
    generalize (.mk k1 c1 r1 ⟨vk1, vn1, vs1⟩ o1 la1 lc1 l1 ka1 kc1 ks1 p1 : Pm).z false = zx at *
    generalize (.mk k2 c2 r2 ⟨vk2, vn2, vs2⟩ o2 la2 lc2 l2 ka2 kc2 ks2 p2 : Pm).z false = zy at *
    obtain ⟨LZ, hLZ⟩ : ∃ P : Prop, P = (zx = zy) := ⟨_, rfl⟩
    rw [← hLZ] at HL ⊢
    have HR : Hid ((rowsOrd l1 l2 == 0) = true ↔ l1 = l2) := Lib.hid (by rw [beq_iff_eq]; exact ro_zero l1 l2)
    generalize (rowsOrd l1 l2 == 0) = rb at *
    obtain ⟨EL, hEL⟩ : ∃ P : Prop, P = (l1 = l2) := ⟨_, rfl⟩
    rw [← hEL] at HL HR
    clear hLZ hEL hx hy HZ hN hK
    generalize l1.length = n1 at *
    generalize l2.length = n2 at *
    obtain ⟨m1, hm1⟩ : ∃ m, m = ks1.length := ⟨_, rfl⟩
    obtain ⟨m2, hm2⟩ : ∃ m, m = ks2.length := ⟨_, rfl⟩
    have HM := Lib.hid (And.intro hm1 hm2)
    rw [← hm1] at hks ⊢
    rw [← hm2]
    rw [← hm1, ← hm2] at HL
    clear hm1 hm2
    have B1 := heap_alloc_new w (.cells #[.int .i64 (k1 : Nat), .string c1, .int .i64 (r1 : Nat), .int .i64 vk1, .int .i64 vn1, .string vs1, .string o1, .slice la1 n1 lc1, .slice ka1 m1 kc1, .int .i64 (p1 : Nat)] 31)
    have B2 := heap_alloc_new (w.alloc (.cells #[.int .i64 (k1 : Nat), .string c1, .int .i64 (r1 : Nat), .int .i64 vk1, .int .i64 vn1, .string vs1, .string o1, .slice la1 n1 lc1, .slice ka1 m1 kc1, .int .i64 (p1 : Nat)] 31)) (.cells #[.int .i64 (k2 : Nat), .string c2, .int .i64 (r2 : Nat), .int .i64 vk2, .int .i64 vn2, .string vs2, .string o2, .slice la2 n2 lc2, .slice ka2 m2 kc2, .int .i64 (p2 : Nat)] 31)
    have hs1 : (w.alloc (.cells #[.int .i64 (k1 : Nat), .string c1, .int .i64 (r1 : Nat), .int .i64 vk1, .int .i64 vn1, .string vs1, .string o1, .slice la1 n1 lc1, .slice ka1 m1 kc1, .int .i64 (p1 : Nat)] 31)).heap.size = w.heap.size + 1 := by simp
    rw [hs1] at B2
    have g1 := World.grownBy_alloc (w.alloc (.cells #[.int .i64 (k1 : Nat), .string c1, .int .i64 (r1 : Nat), .int .i64 vk1, .int .i64 vn1, .string vs1, .string o1, .slice la1 n1 lc1, .slice ka1 m1 kc1, .int .i64 (p1 : Nat)] 31)) (.cells #[.int .i64 (k2 : Nat), .string c2, .int .i64 (r2 : Nat), .int .i64 vk2, .int .i64 vn2, .string vs2, .string o2, .slice la2 n2 lc2, .slice ka2 m2 kc2, .int .i64 (p2 : Nat)] 31) none
    have K0 := Lib.hid ((World.grownBy_alloc w (.cells #[.int .i64 (k1 : Nat), .string c1, .int .i64 (r1 : Nat), .int .i64 vk1, .int .i64 vn1, .string vs1, .string o1, .slice la1 n1 lc1, .slice ka1 m1 kc1, .int .i64 (p1 : Nat)] 31) none).trans g1)
    have B1 := Lib.hid (blk_grown g1 B1)
    have B2 := Lib.hid B2
    obtain ⟨b0, b1, b2, b3, b4, b5, b6, b7, b8, b9⟩ := cells10 B1.out
    obtain ⟨d0, d1, d2, d3, d4, d5, d6, d7, d8, d9⟩ := cells10 B2.out
    clear g1 hs1
    by_cases h0 : k1 = k2
    · subst h0
      by_cases h1 : c1 = c2
      · subst h1
        by_cases h2 : r1 = r2
        · subst h2
          by_cases h3 : vk1 = vk2
          · subst h3
            by_cases h4 : vn1 = vn2
            · subst h4
              by_cases h5 : vs1 = vs2
              · subst h5
                by_cases h6 : o1 = o2
                · subst h6
                  by_cases h7 : m1 = m2
                  · subst h7
                    go_enter Tryz.func17, Tryz.ntmps17
                    go_wp2_with fail
                    refine (HQ.out _ K0.out).mono ?_
                    rintro e w2 ⟨rfl, hb⟩
                    have K2 := Lib.hid (K0.out.trans (grown_belowX hb none))
                    have V1 := Lib.hid (blk_grown (grown_belowX hb none) B1.out)
                    have V2 := Lib.hid (blk_grown (grown_belowX hb none) B2.out)
                    clear hb b0 b1 b2 b3 b4 b5 b6 b7 b8 b9 d0 d1 d2 d3 d4 d5 d6 d7 d8 d9 B1 B2
                    obtain ⟨b0, b1, b2, b3, b4, b5, b6, b7, b8, b9⟩ := cells10 V1.out
                    obtain ⟨d0, d1, d2, d3, d4, d5, d6, d7, d8, d9⟩ := cells10 V2.out
                    cases rb with
                    | false =>
                      have HN : Hid (¬ EL) := Lib.hid (fun h => by have := HR.out.2 h; cases this)
                      go_wp2_with fail
                      go_ret
                      exact ⟨⟨false, rfl, HL.out _ (by simp [HN.out])⟩, K2.out⟩
                    | true =>
                      have HEL : Hid EL := Lib.hid (HR.out.1 rfl)
                      go_wp2_with fail
                      have GB := Lib.hid (grown_reflX w2 none)
                      clear b0 b1 b2 b3 b4 b5 b6 b7 b8 b9 d0 d1 d2 d3 d4 d5 d6 d7 d8 d9
                      go_loopw [71] (fun i wr => ∃ (j : Nat), i = .int .i64 j ∧ j ≤ m1 ∧ Hid (∀ q, q < j → (ks1.getD q default).z false = (ks2.getD q default).z false) ∧ Hid (w2.grownBy wr none)) (fun i _ => m1 - (intOf i).toNat)
                      case atStart => exact ⟨0, rfl, by omega, Lib.hid (fun i hi => by omega), GB⟩
                      case round =>
                        obtain ⟨j, rfl, hj, E, K⟩ := hrel
                        by_cases hlt : j < m1
                        · obtain ⟨b, off, rfl, _, hb, hc⟩ := (HC1.out wr (K2.out.trans K.out)).elem Pm.c_len (by decide) (i := j) (by rw [← HM.out.1]; exact hlt)
                          obtain ⟨b', off', rfl, _, hb', hc'⟩ := (HC2.out wr (K2.out.trans K.out)).elem Pm.c_len (by decide) (i := j) (by rw [← HM.out.2]; exact hlt)
                          have HI1 := Lib.hid (fun W (hW : wr.grownBy W none) => HIH.out j (by rw [← HM.out.1]; exact hlt) (by rw [← HM.out.1, ← HM.out.2]) W ((K2.out.trans K.out).trans hW))
                          have E2 : Hid ((ks1.getD j default).z false = (ks2.getD j default).z false → ∀ q, q < j + 1 → (ks1.getD q default).z false = (ks2.getD q default).z false) := Lib.hid fun h q hq => by
                            by_cases e : q = j
                            · rw [e]; exact h
                            · exact E.out q (by omega)
                          have E3 : Hid (¬ (ks1.getD j default).z false = (ks2.getD j default).z false → ¬ ∀ q, q < m1 → (ks1.getD q default).z false = (ks2.getD q default).z false) := Lib.hid fun h hA => h (hA j hlt)
                          have KB1 := cells10 (blk_grown K.out V1.out)
                          have KB2 := cells10 (blk_grown K.out V2.out)
                          have b8 := KB1.2.2.2.2.2.2.2.2.1
                          have d8 := KB2.2.2.2.2.2.2.2.2.1
                          clear KB1 KB2
                          generalize ks1.getD j default = X at *
                          generalize ks2.getD j default = Y at *
                          obtain ⟨xk, xc, xr, xv, xo, xla, xlc, xl, xka, xkc, xks, xp⟩ := X
                          obtain ⟨yk, yc, yr, yv, yo, yla, ylc, yl, yka, ykc, yks, yp⟩ := Y
                          have x0 := hc 0 _ rfl
                          have x1 := hc 1 _ rfl
                          have x2 := hc 2 _ rfl
                          have x3 := hc 3 _ rfl
                          have x4 := hc 4 _ rfl
                          have x5 := hc 5 _ rfl
                          have x6 := hc 6 _ rfl
                          have x7 := hc 7 _ rfl
                          have x8 := hc 8 _ rfl
                          have x9 := hc 9 _ rfl
                          have y0 := hc' 0 _ rfl
                          have y1 := hc' 1 _ rfl
                          have y2 := hc' 2 _ rfl
                          have y3 := hc' 3 _ rfl
                          have y4 := hc' 4 _ rfl
                          have y5 := hc' 5 _ rfl
                          have y6 := hc' 6 _ rfl
                          have y7 := hc' 7 _ rfl
                          have y8 := hc' 8 _ rfl
                          have y9 := hc' 9 _ rfl
                          clear hc hc'
                          rw [Nat.add_zero] at x0 y0
                          have HI1 : Hid (∀ W, wr.grownBy W none → Calls Tryz.prog 17 #[.agg #[.int .i64 (xk : Nat), .string xc, .int .i64 (xr : Nat), .int .i64 xv.k, .int .i64 xv.n, .string xv.s, .string xo, .slice xla xl.length xlc, .slice xka xks.length xkc, .int .i64 (xp : Nat)], .agg #[.int .i64 (yk : Nat), .string yc, .int .i64 (yr : Nat), .int .i64 yv.k, .int .i64 yv.n, .string yv.s, .string yo, .slice yla yl.length ylc, .slice yka yks.length ykc, .int .i64 (yp : Nat)], .bool false] W fun e w' => BoolIs _ e ∧ W.grownBy w' none) := HI1
                          go_wp2_with fail
                          go_region_with (go_at_call 17; (with_reducible refine (HI1.out _ (grown_drewT (grown_reflX _ _))).mono ?_); rintro e w3 ⟨⟨r, rfl, hr⟩, hg⟩; have R := Lib.hid hr; have G3 := Lib.hid ((grown_drewT (grown_reflX wr none)).trans hg); clear hr hg x0 x1 x2 x3 x4 x5 x6 x7 x8 x9 y0 y1 y2 y3 y4 y5 y6 y7 y8 y9)
                          all_goals
                            cases r with
                            | true =>
                              go_wp2_with fail
                              go_roundw
                              case rel => exact ⟨j + 1, by go_num, by omega, Lib.hid (E2.out (R.out.1 (by first | rfl | trivial))), Lib.hid (K.out.trans G3.out)⟩
                              case measure => simp [intOf]; omega
                            | false =>
                              go_wp2_with fail
                              go_ret
                              exact ⟨⟨false, rfl, HL.out _ (by
                                constructor
                                · intro h; cases h
                                · intro h; exact absurd h.2.2 (E3.out (fun h2 => by have := R.out.2 h2; cases this)))⟩, K2.out.trans (K.out.trans G3.out)⟩
                        · obtain rfl : m1 = j := by omega
                          go_wp2_with fail
                          go_ret
                          exact ⟨⟨true, rfl, HL.out _ (by
                            constructor
                            · intro _; exact ⟨by simp [HEL.out], by first | rfl | trivial, E.out⟩
                            · intro _; first | rfl | trivial)⟩, K2.out.trans K.out⟩
                  · have e7 := nat_eqf h7
                    have f7 : ((m1 : Int) != (m2 : Int)) = true := by rw [bne_iff_ne]; omega
                    have HN := Lib.hid h7
                    clear h7
                    go_enter Tryz.func17, Tryz.ntmps17
                    go_wp2_with fail
                    go_ret
                    exact ⟨⟨false, rfl, HL.out _ (by simp [HN.out])⟩, K0.out⟩
                · have e6 := str_ne h6
                  have HN := Lib.hid h6
                  clear h6
                  go_enter Tryz.func17, Tryz.ntmps17
                  go_wp2_with fail
                  go_ret
                  exact ⟨⟨false, rfl, HL.out _ (by simp [HN.out])⟩, K0.out⟩
              · have e5 := str_ne h5
                have HN := Lib.hid h5
                clear h5
                go_enter Tryz.func17, Tryz.ntmps17
                go_wp2_with fail
                go_ret
                exact ⟨⟨false, rfl, HL.out _ (by simp [HN.out])⟩, K0.out⟩
            · have e4 := int_eqf h4
              have f4 : (vn1 != vn2) = true := by rw [bne_iff_ne]; exact h4
              have HN := Lib.hid h4
              clear h4
              go_enter Tryz.func17, Tryz.ntmps17
              go_wp2_with fail
              go_ret
              exact ⟨⟨false, rfl, HL.out _ (by simp [HN.out])⟩, K0.out⟩
          · have e3 := int_eqf h3
            have f3 : (vk1 != vk2) = true := by rw [bne_iff_ne]; exact h3
            have HN := Lib.hid h3
            clear h3
            go_enter Tryz.func17, Tryz.ntmps17
            go_wp2_with fail
            go_ret
            exact ⟨⟨false, rfl, HL.out _ (by simp [HN.out])⟩, K0.out⟩
        · have e2 := nat_eqf h2
          have f2 : ((r1 : Int) != (r2 : Int)) = true := by rw [bne_iff_ne]; omega
          have HN := Lib.hid h2
          clear h2
          go_enter Tryz.func17, Tryz.ntmps17
          go_wp2_with fail
          go_ret
          exact ⟨⟨false, rfl, HL.out _ (by simp [HN.out])⟩, K0.out⟩
      · have e1 := str_ne h1
        have HN := Lib.hid h1
        clear h1
        go_enter Tryz.func17, Tryz.ntmps17
        go_wp2_with fail
        go_ret
        exact ⟨⟨false, rfl, HL.out _ (by simp [HN.out])⟩, K0.out⟩
    · have e0 := nat_eqf h0
      have f0 : ((k1 : Int) != (k2 : Int)) = true := by rw [bne_iff_ne]; omega
      have HN := Lib.hid h0
      clear h0
      go_enter Tryz.func17, Tryz.ntmps17
      go_wp2_with fail
      go_ret
      exact ⟨⟨false, rfl, HL.out _ (by simp [HN.out])⟩, K0.out⟩
end Go.Proofs.YtppigamibgefaaaGreatDoor
