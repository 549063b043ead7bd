/- tree's walk: how it goes down. The document's Check at any tables: it says what the program's says. tree's walk: how it begins, and its next. -/
import Derived.Test.YtnfpomjcofhppaaGreatDoorZb12
import Derived.Test.YtnfpomjcofhppaaGreatDoorZb13
import Derived.Laws.EntriesVeiled
namespace Go.Proofs.YtnfpomjcofhppaaGreatDoor
open Go.RowKit

theorem ptr_info : (Tryz.prog.info? 79).map (fun i => (i.zero, i.size, i.bytes)) = some (some (.pointer none), 1, 8) := by kernel_rfl
theorem Wlk.lt {S : Nat → Prop} {B : Nat} {w : World} {kp pp dp : Nat} {ka : Ptr} {kc : Nat} {key : List Vl} {v : Value} {xs : List (Ptr × Tre)} (h : Wlk S B w kp pp dp ka kc key v xs) : kp < w.heap.size ∧ pp < w.heap.size ∧ dp < w.heap.size :=
  ⟨World.block_lt_of_cell? w ⟨kp, 0, none⟩ h.kbox, lt_of_block h.path, World.block_lt_of_cell? w ⟨dp, 0, none⟩ h.dbox⟩
theorem grown_only {w w' : World} (h : w.grownBy w' none) : Only (fun _ => False) w w' := ⟨h.os, h.tape, h.output, h.size, fun b hb _ => h.block b hb (by simp)⟩
theorem Wlk.grown {S : Nat → Prop} {B : Nat} {w w' : World} {kp pp dp : Nat} {ka : Ptr} {kc : Nat} {key : List Vl} {v : Value} {xs : List (Ptr × Tre)} (h : Wlk S B w kp pp dp ka kc key v xs) (hg : w.grownBy w' none) : Wlk S B w' kp pp dp ka kc key v xs :=
  h.keep (grown_only hg) (fun _ hb => hb.elim)
theorem Wlk.push_only {S : Nat → Prop} {B : Nat} {w w2 : World} {kp pp dp : Nat} {ka : Ptr} {kc : Nat} {key : List Vl} {v : Value} {xs : List (Ptr × Tre)} {u : Value} (_h : Wlk S B w kp pp dp ka kc key v xs) (hg : w.grownBy w2 v.ownBlock) : Only (Wlk.M pp v) w (w2.setCell ⟨pp, 0, none⟩ u) :=
  ((Only.refl _ w).grown hg (fun _ hj => .inl (.inr hj))).set (.inl (.inl rfl)) 0 _
theorem Wlk.stays {S : Nat → Prop} {B : Nat} {w w' : World} {kp pp dp : Nat} {ka : Ptr} {kc : Nat} {key : List Vl} {v : Value} {xs : List (Ptr × Tre)} (h : Wlk S B w kp pp dp ka kc key v xs) (o : Only (Wlk.M pp v) w w') : Stays S w w' := o.stays (fun b hb _ hm => by
  have := h.low b hb
  rcases hm with rfl | hm
  · have := h.bp; omega
  · have := (World.ownsRow.lt h.own b hm).1; omega)
/-- A node is pushed. -/
theorem Wlk.push {S : Nat → Prop} {B : Nat} {w w2 : World} {kp pp dp : Nat} {ka : Ptr} {kc : Nat} {key : List Vl} {v : Value} {xs : List (Ptr × Tre)} {g cap : Nat} {p : Ptr} {t : Tre} (h : Wlk S B w kp pp dp ka kc key v xs) (hg : w.grownBy w2 v.ownBlock)
    (hown : w2.ownsRow B 79 1 (.slice (some ⟨g, 0, none⟩) (xs.length + 1) cap) (xs.length + 1) (xs.map (fun x => Value.pointer x.1) ++ [.pointer p])) (hgb : v.ownBlock = some g ∨ w.heap.size ≤ g) (ht : TrAt S w t p) (htn : 0 < t.n ∧ t.n ≤ 500000000) (hts : Tr.Sorted rowsOrd t.toL) :
    Wlk S B (w2.setCell ⟨pp, 0, none⟩ (.slice (some ⟨g, 0, none⟩) (xs.length + 1) cap)) kp pp dp ka kc key (.slice (some ⟨g, 0, none⟩) (xs.length + 1) cap) (xs ++ [(p, t)]) := by
  obtain ⟨l1, l2, l3⟩ := h.lt
  have o1 : Only (Wlk.M pp v) w w2 := (Only.refl _ w).grown hg (fun j hj => .inl (.inr hj))
  have hgpp : g ≠ pp := fun e' => hgb.elim (fun e => h.v_pp (by rw [e, e'])) (fun e => by omega)
  have hgkp : g ≠ kp := fun e' => hgb.elim (fun e => h.v_kp (by rw [e, e'])) (fun e => by omega)
  have hgdp : g ≠ dp := fun e' => hgb.elim (fun e => h.v_dp (by rw [e, e'])) (fun e => by omega)
  have hp2 : w2.heap[pp]? = some (.cells #[v] 192 (0, 0)) := (hg.block pp l2 (fun e => h.v_pp e.symm)).trans h.path
  have o2 : Only (Wlk.M pp v) w (w2.setCell ⟨pp, 0, none⟩ (.slice (some ⟨g, 0, none⟩) (xs.length + 1) cap)) := o1.set (.inl (.inl rfl)) 0 _
  have hvB : ∀ b, v.ownBlock = some b → B ≤ b := fun b hb => (World.ownsRow.lt h.own b hb).1
  have hst : Stays S w (w2.setCell ⟨pp, 0, none⟩ (.slice (some ⟨g, 0, none⟩) (xs.length + 1) cap)) := o2.stays (fun b hb _ hm => by
    have := h.low b hb
    rcases hm with rfl | hm
    · have := h.bp; omega
    · have := hvB b hm; omega)
  have nkp : ¬ Wlk.M pp v kp := fun hm => hm.elim (fun e => h.kp_pp e) (fun e => h.v_kp e)
  have ndp : ¬ Wlk.M pp v dp := fun hm => hm.elim (fun e => h.dp_pp e) (fun e => h.v_dp e)
  refine ⟨one_setCell hp2, ?_, h.bp, o2.cell h.kbox nkp, h.krow.keep hst, o2.cell h.dbox ndp, h.kp_pp, h.dp_pp, fun e => hgpp (by simpa [Value.ownBlock] using e), fun e => hgkp (by simpa [Value.ownBlock] using e), fun e => hgdp (by simpa [Value.ownBlock] using e), fun x hx => ?_, h.low, Nat.le_trans h.bw o2.size⟩
  · rw [List.length_append, List.map_append]
    exact ownsRow_setCell_other hown (fun e => hgpp (by simpa [Value.ownBlock] using e)) _
  · rcases List.mem_append.1 hx with hx | hx
    · exact ⟨(h.trees x hx).1.keep hst, (h.trees x hx).2⟩
    · obtain rfl := List.mem_singleton.1 hx
      exact ⟨ht.keep hst, htn, hts⟩
theorem one_atT {w : World} {b : Nat} {u : Value} (h : w.cell? ⟨b, 0, none⟩ = some u) : ∀ j x, [u][j]? = some x → w.cell? ((⟨b, 0, none⟩ : Addr).add j) = some x := by
  intro j x hj
  match j, hj with
  | 0, hj => simp at hj; subst hj; exact h
theorem one_oneT (p : Ptr) : ∀ u ∈ [Value.pointer p], u.oneCell' = true := by
  intro u hu
  obtain rfl := List.mem_singleton.1 hu
  rfl
set_option maxRecDepth 100000 in
set_option maxHeartbeats 6400000 in
theorem down_any (hc : Tr.IsOrd rowsOrd) (S : Nat → Prop) (B : Nat) (kp pp dp : Nat) (ka : Ptr) (kc : Nat) (key : List Vl) (v0 : Value) (xs0 : List (Ptr × Tre)) (t0 : Tre) (p0 : Ptr) (w : World) (h : Wlk S B w kp pp dp ka kc key v0 xs0) (ht : TrAt S w t0 p0) (hs : Tr.Sorted rowsOrd t0.toL) (hn : xs0.length + t0.n ≤ 1000000000 ∧ t0.n ≤ 500000000) :
    Calls Tryz.prog 84 #[.pointer p0, .pointer (some ⟨kp, 0, none⟩), .pointer (some ⟨pp, 0, none⟩)] w fun e w' => e = .returned (.tuple #[]) ∧ (∃ v xs, Wlk S B w' kp pp dp ka kc key v xs ∧ (∀ g, v.ownBlock = some g → v0.ownBlock = some g ∨ w.heap.size ≤ g) ∧ remS key xs = fromL key t0.toL ++ remS key xs0 ∧ xs.length ≤ xs0.length + t0.n) ∧ Only (Wlk.M pp v0) w w' := by
  have HC := Lib.hid hc
  obtain ⟨i0, hi, hz0, hz1, hz2⟩ := info_partsT ptr_info
  have I0 := Lib.hid (show ∃ (t : Tre) (v : Value) (xs : List (Ptr × Tre)), TrAt S w t p0 ∧ Tr.Sorted rowsOrd t.toL ∧ Wlk S B w kp pp dp ka kc key v xs ∧ Only (Wlk.M pp v0) w w ∧ (∀ g, v.ownBlock = some g → v0.ownBlock = some g ∨ w.heap.size ≤ g) ∧ fromL key t.toL ++ remS key xs = fromL key t0.toL ++ remS key xs0 ∧ (xs.length + t.n ≤ xs0.length + t0.n ∧ t.n ≤ 500000000) from ⟨t0, v0, xs0, ht, hs, h, Only.refl _ _, fun g hg => .inl hg, rfl, Nat.le_refl _, hn.2⟩)
  have HN := Lib.hid hn
  clear hc h ht hs hn
  go_enter Tryz.func84, Tryz.ntmps84
  go_wp2_with fail
  go_loopw [0] (fun s wr => ∃ (p : Ptr), s = .pointer p ∧ Hid (∃ (t : Tre) (v : Value) (xs : List (Ptr × Tre)), TrAt S wr t p ∧ Tr.Sorted rowsOrd t.toL ∧ Wlk S B wr kp pp dp ka kc key v xs ∧ Only (Wlk.M pp v0) w wr ∧ (∀ g, v.ownBlock = some g → v0.ownBlock = some g ∨ w.heap.size ≤ g) ∧ fromL key t.toL ++ remS key xs = fromL key t0.toL ++ remS key xs0 ∧ (xs.length + t.n ≤ xs0.length + t0.n ∧ t.n ≤ 500000000))) (fun s W => szOf s W)
  case atStart => exact ⟨p0, rfl, I0⟩
  case round =>
    obtain ⟨p, rfl, I⟩ := hrel
    obtain ⟨t, v, xs, ht, hs, hw, ho, hg, hr, hn⟩ := I.out
    have HL := Lib.hid (len_any S t p wr ht)
    cases t with
    | nil =>
      obtain rfl : p = none := ht
      have D := Lib.hid (And.intro hw (And.intro hg (And.intro hr (And.intro ho hn))))
      clear hs hw ho hg hr hn I
      go_wp2_with fail
      refine HL.out.mono ?_
      rintro e w1 ⟨rfl, rfl⟩
      simp only [Tr.n]
      go_wp2_with fail
      go_end0
      exact ⟨rfl, ⟨v, xs, D.out.1, D.out.2.1, by have := D.out.2.2.1; simpa [Tr.toL, fromL] using this, by have := D.out.2.2.2.2.1; simpa [Tr.n] using this⟩, D.out.2.2.2.1⟩
    | node l k r' r =>
      have hn0 : 0 < Tr.n (.node l k r' r) := by simp [Tr.n]; omega
      have sz := szOf_eq ht
      have HT := Lib.hid ht
      have hlow := hw.low
      obtain ⟨b, tka, tkc, tva, tvc, lp, rp, rfl, hSb, _, ⟨c0, c1, c2, c3, _, _⟩, h1, h2, h3, h4⟩ := ht
      have hSB := hlow b hSb
      have HCm := Lib.hid (fun W (hW : wr.grownBy W none) => rows_grown tka ka tkc kc k key W ((h1.keep (.of hW)).row) ((hw.krow.keep (.of hW)).row))
      have F := Lib.hid (fun (W : World) (hW : wr.grownBy W none) => And.intro (hW.cell c0 (by simp)) (And.intro (hW.cell c2 (by simp)) (And.intro (hW.cell c3 (by simp)) (hW.cell hw.kbox (by simp)))))
      have kb := hw.kbox
      have hn1 : (0 : Int) < (Tr.n (.node l k r' r) : Nat) := by omega
      have D := Lib.hid (And.intro hw (And.intro hg (And.intro hr (And.intro ho hn))))
      have E3 := Lib.hid h3
      have E4 := Lib.hid h4
      have Hs := Lib.hid hs
      clear hs hw ho hg hr hn I h1 h2 h3 h4 hlow
      obtain ⟨nn, hnn⟩ : ∃ nn, nn = Tr.n (.node l k r' r) := ⟨_, rfl⟩
      have Hnn := Lib.hid hnn
      rw [← hnn] at HL hn1 sz
      clear hnn hn0
      go_wp2_with fail
      refine HL.out.mono ?_
      rintro e w1 ⟨rfl, rfl⟩
      go_upto_region 1 with fail
      go_cut [14] (fun s14 wx => s14 = .bool (decide (rowsOrd k key < 0)) ∧ Hid (wr.grownBy wx none))
      case first =>
        generalize rowsOrd k key = cc at *
        go_region_with (go_at_call 79; (with_reducible refine (HCm.out _ (by first | exact grown_drewT (grown_reflT _ _) | exact grown_reflT _ _)).mono ?_); rintro e w2 ⟨rfl, hg2⟩; have G2 := Lib.hid (show wr.grownBy w2 none from (grown_drewT (grown_reflT wr none)).trans hg2); clear hg2)
        all_goals
          go_wp2_with fail
          go_meet
          exact ⟨rfl, G2⟩
      case rest =>
      obtain ⟨rfl, G2⟩ := hcut
      obtain ⟨d0, d2, d3, _⟩ := F.out _ G2.out
      clear c0 c1 c2 c3 kb
      by_cases hlt : rowsOrd k key < 0
      · rw [decide_eq_true hlt]
        go_wp2_with fail
        go_roundw
        case rel =>
          obtain ⟨hw, hg, hr, ho, hn⟩ := D.out
          exact ⟨rp, rfl, Lib.hid ⟨r, v, xs, E4.out.keep (.of G2.out), sorted_r Hs.out, hw.grown G2.out, ho.grown G2.out (fun j hj => by cases hj), hg, by rw [← skip_eq HC.out Hs.out hlt]; exact hr, by simp only [Tr.n] at hn; omega, by simp only [Tr.n] at hn; omega⟩⟩
        case measure => rw [szOf_eq (E4.out.keep (.of G2.out)), sz, Hnn.out, Tr.n]; omega
      · rw [decide_eq_false hlt]
        have hneb : b ≠ pp := fun e => by have := D.out.1.bp; omega
        obtain ⟨PP, Ow, hlen, hw0⟩ : wr.heap[pp]? = some (.cells #[v] 192 (0, 0)) ∧ wr.ownsRow B 79 1 v xs.length (xs.map fun x => Value.pointer x.1) ∧ xs.length + 1 ≤ 1000000000 ∧ B ≤ wr.heap.size := ⟨D.out.1.path, D.out.1.own, by have h1 := D.out.2.2.2.2.1; have := HN.out.1; simp only [Tr.n] at h1; omega, D.out.1.bw⟩
        have Opp := D.out.1.v_pp
        have P2 := Lib.hid ((G2.out.block pp (lt_of_block PP) (by simp)).trans PP)
        have pc := cell_of_one P2.out
        have O2 := Lib.hid (World.ownsRow.kept Ow G2.out (by cases v.ownBlock <;> simp))
        have hB2 : B ≤ wc.heap.size := Nat.le_trans hw0 G2.out.size
        have OP := Lib.hid Opp
        clear Ow PP Opp hw0
        obtain ⟨xn, hxn⟩ : ∃ n, n = xs.length := ⟨_, rfl⟩
        have Hxn := Lib.hid hxn
        rw [← hxn] at O2 hlen
        clear hxn
        go_wp2_with (at_builtin; refine wpList_append_lies _ rfl _ _ 192 rfl B 79 i0 (.pointer none) 1 8 Tryz.underlying192 hi hz0 hz1 hz2 rfl (by decide) v xn (xs.map fun x => Value.pointer x.1) rfl (World.ownsRow.alloc O2.out _) ⟨wc.heap.size, 0, none⟩ 1 1 [.pointer (some ⟨b, 0, none⟩)] rfl rfl (one_atT (cell_of_row _ _ 0 _ _ _ (heap_alloc_new wc _))) (one_oneT _) (by decide) (by unfold maxLen; omega) (by omega) (by simp; omega) _ rfl ?_)
        intro g cap w4 hown4 hgrow4 hgb hg4
        have hfar : some pp ≠ v.ownBlock := fun e => OP.out e.symm
        have P4 := Lib.hid ((hgrow4.block pp (by have := lt_of_block P2.out; simp; omega) hfar).trans (((World.grownBy_alloc wc _ none).block pp (lt_of_block P2.out) (by simp)).trans P2.out))
        have pc4 := cell_of_one P4.out
        have pf4 := free_of_one P4.out
        have hvb : some b ≠ v.ownBlock := fun e => by have := (World.ownsRow.lt O2.out b e.symm).1; omega
        have e2 : w4.cell? ⟨b, 2, none⟩ = some (.pointer lp) := hgrow4.cell ((World.grownBy_alloc wc _ none).cell d2 (by simp)) hvb
        have GB := Lib.hid hgb
        have OW4 := Lib.hid hown4
        have GR4 := Lib.hid hgrow4
        clear hown4 hgrow4 hgb d0 d2 d3 pc
        go_wp2_with fail
        go_roundw
        case rel =>
          obtain ⟨hw, hg, hr, ho, hn⟩ := D.out
          have wk := (hw.grown G2.out).grown (World.grownBy_alloc wc (.cells #[.pointer (some ⟨b, 0, none⟩)] 79) none)
          have GA := G2.out.trans (World.grownBy_alloc wc (.cells #[.pointer (some ⟨b, 0, none⟩)] 79) none)
          have ow := OW4.out
          rw [Hxn.out] at ow
          have hpu := wk.push GR4.out ow (GB.out.imp id (fun e => by simp; omega)) (HT.out.keep (.of GA)) ⟨by rw [← Hnn.out]; omega, hn.2⟩ Hs.out
          have hon := wk.push_only (u := .slice (some ⟨g, 0, none⟩) (xs.length + 1) cap) GR4.out
          have hst := wk.stays hon
          rw [← Hxn.out] at hpu hon hst
          refine ⟨lp, rfl, Lib.hid ⟨l, _, _, (E3.out.keep (.of GA)).keep hst, sorted_l Hs.out, hpu, (ho.grown GA (fun j hj => by cases hj)).trans hon (fun x hx => ?_), fun x hx => ?_, ?_, ?_, ?_⟩⟩
          · rcases hx with rfl | hx
            · exact .inl (.inl rfl)
            · rcases hg x hx with h | h
              · exact .inl (.inr h)
              · exact .inr h
          · have e : g = x := by simpa [Value.ownBlock] using hx
            subst e
            rcases GB.out with h | h
            · exact hg g h
            · right
              have := ho.size
              have := G2.out.size
              omega
          · rw [← push_eq (by omega) xs]; exact hr
          · rw [List.length_append]; simp only [Tr.n] at hn; simp only [List.length_singleton]; omega
          · simp only [Tr.n] at hn; omega
        case measure =>
          obtain ⟨hw, _⟩ := D.out
          have wk := (hw.grown G2.out).grown (World.grownBy_alloc wc (.cells #[.pointer (some ⟨b, 0, none⟩)] 79) none)
          have GA := G2.out.trans (World.grownBy_alloc wc (.cells #[.pointer (some ⟨b, 0, none⟩)] 79) none)
          have hst := wk.stays (wk.push_only (u := .slice (some ⟨g, 0, none⟩) (xn + 1) cap) GR4.out)
          rw [szOf_eq ((E3.out.keep (.of GA)).keep hst), sz, Hnn.out, Tr.n]
          omega
end Go.Proofs.YtnfpomjcofhppaaGreatDoor
namespace Go.Proofs.YtnfpomjcofhppaaGreatDoor
open Go.RowKit

set_option maxRecDepth 100000 in
set_option maxHeartbeats 6400000 in
theorem refCheck_all (a : Option Addr) (cap : Nat) (l : List Tb) (w : World) (h : TabsAt w.heap.size w a l) (hcap : l.length ≤ cap) (hcs : ∀ t ∈ l, t.l.length ≤ t.cap) (hN : ∀ t ∈ l, t.n.size ≤ 9223372036854775807 ∧ ∀ i, i < t.l.length → (t.l.getD i default).n.size ≤ 9223372036854775807) :
    Calls Tryz.prog 39 #[.slice a l.length cap] w fun e w' => (RightG l ∧ e = .returned (.tuple #[.int .i64 0, .int .i64 0]) ∨ ∃ k y, Flaw6 (FullG l) (MalG l) (TwcG l) l.length k y ∧ e = .returned (.tuple #[.int .i64 k, .int .i64 y])) ∧ w.grownBy w' none := by
  have HW : Hid (∀ k, k < l.length → ∀ W, w.grownBy W none → Calls Tryz.prog 58 #[.slice a k cap, .agg #[.string (l.getD k default).n, .slice (l.getD k default).a (l.getD k default).l.length (l.getD k default).cap, .int .i64 (l.getD k default).k]] W fun e w' => (∃ c, Verd6 (FullG l k) (MalG l k) (TwcG l k) c ∧ e = .returned (.int .i64 c)) ∧ W.grownBy w' none) := Lib.hid fun k hk W hW => by
    have hl : (l.take k).length = k := by rw [List.length_take]; omega
    have := refWrong_all a (l.getD k default).a cap (l.getD k default).cap (l.take k) (l.getD k default).l (l.getD k default).n (l.getD k default).k W (((h.keep hW (by simp)).mono hW.size).pre (by omega)) (by omega) (((h.2.1 _ (tb_mem hk)).keep hW (by simp)).mono hW.size) (hcs _ (tb_mem hk)) (hN _ (tb_mem hk)).1 (hN _ (tb_mem hk)).2
    rw [hl] at this
    exact this
  have H := Lib.hid h
  have hlen := h.1
  unfold RightG
  generalize FullG l = F at *
  generalize MalG l = M at *
  generalize TwcG l = T at *
  obtain ⟨n, hn⟩ : ∃ n, n = l.length := ⟨_, rfl⟩
  have Hn := Lib.hid hn
  rw [← hn] at hlen hcap HW ⊢
  clear h hn hcs hN
  go_enter Tryz.func39, Tryz.ntmps39
  go_wp2_with fail
  go_loopw [8] (fun i wr => ∃ (k : Nat), i = .int .i64 k ∧ k ≤ n ∧ Hid (∀ i, i < k → F i ∧ M i ∧ T i) ∧ Hid (w.grownBy wr none)) (fun i _ => n - (intOf i).toNat)
  case atStart => exact ⟨0, rfl, by omega, Lib.hid (fun i hi => by omega), Lib.hid (grown_refl6 _ _)⟩
  case round =>
    obtain ⟨k, rfl, hk, E, KR⟩ := hrel
    by_cases hlt : k < n
    · obtain ⟨b, off, rfl, _, c0, c1, c2⟩ := (H.out.keep KR.out (by simp)).at (i := k) (by rw [← Hn.out]; exact hlt)
      have HX := Lib.hid (HW.out k hlt)
      have Next : Hid (Verd6 (F k) (M k) (T k) 0 → ∀ i, i < k + 1 → F i ∧ M i ∧ T i) := Lib.hid fun hv i hi => by
        by_cases e : i = k
        · subst e
          rcases hv with ⟨h1, h2, h3, _⟩ | ⟨_, h⟩ | ⟨_, _, h⟩ | ⟨_, _, _, h⟩
          · exact ⟨h1, h2, h3⟩
          all_goals omega
        · exact E.out i (by omega)
      have Stop : Hid (∀ c, c ≠ 0 → Verd6 (F k) (M k) (T k) c → Flaw6 F M T n k c) := Lib.hid fun c hc hv => by
        refine ⟨hlt, E.out, ?_⟩
        rcases hv with ⟨_, _, _, h⟩ | ⟨h1, h⟩ | ⟨h1, h2, h⟩ | ⟨h1, h2, h3, h⟩
        · exact absurd h hc
        · exact .inl ⟨h1, h⟩
        · exact .inr (.inl ⟨h1, h2, h⟩)
        · exact .inr (.inr ⟨h1, h2, h3, h⟩)
      clear HW E
      generalize l.getD k default = x at *
      obtain ⟨xn, xa, xc, xl, xk⟩ := x
      simp only at c0 c1 c2 HX
      generalize xl.length = xm at *
      have j0 : (k : Int) ≤ cap := by omega
      go_wp2_with fail
      go_region_with (go_at_call 58; (with_reducible refine (HX.out _ (by first | exact KR.out | exact grown_drew6 KR.out)).mono ?_); rintro e w4 ⟨⟨c, hv4, rfl⟩, hg4⟩; have K4 := Lib.hid hg4; have HV := Lib.hid hv4; clear hv4)
      all_goals
        by_cases hc : c = 0
        · subst hc
          have hnext := Lib.hid (Next.out HV.out)
          go_wp2_with fail
          go_roundw
          case rel => exact ⟨k + 1, by go_num, by omega, hnext, Lib.hid ((grown_drew6 KR.out).trans K4.out)⟩
          case measure => simp [intOf]; omega
        · have hstop := Lib.hid (Stop.out c hc HV.out)
          have hc' : (c != 0) = true := by simpa using hc
          clear hc
          go_wp2_with fail
          go_ret2
          exact ⟨.inr ⟨_, _, hstop.out, rfl⟩, (grown_drew6 KR.out).trans K4.out⟩
    · obtain rfl : k = n := by omega
      go_wp2_with fail
      go_ret2
      exact ⟨.inl ⟨E.out, rfl⟩, KR.out⟩
/-- There is one first flaw at most. -/
theorem Flaw6.one {F M T : Nat → Prop} {n k k' : Nat} {y y' : Int} (h : Flaw6 F M T n k y) (h' : Flaw6 F M T n k' y') : k = k' ∧ y = y' := by
  have no : ∀ {k y}, Flaw6 F M T n k y → ¬ (F k ∧ M k ∧ T k) := fun h hr => by
    rcases h.2.2 with ⟨h, _⟩ | ⟨_, h, _⟩ | ⟨_, _, h, _⟩
    · exact h hr.1
    · exact h hr.2.1
    · exact h hr.2.2
  have e : k = k' := by
    rcases Nat.lt_trichotomy k k' with hl | hl | hl
    · exact absurd (h'.2.1 k hl) (no h)
    · exact hl
    · exact absurd (h.2.1 k' hl) (no h')
  subst e
  refine ⟨rfl, ?_⟩
  rcases h.2.2 with ⟨a, b⟩ | ⟨a, b, c⟩ | ⟨a, b, c, d⟩ <;> rcases h'.2.2 with ⟨a', b'⟩ | ⟨a', b', c'⟩ | ⟨a', b', c', d'⟩ <;> first | omega | contradiction
end Go.Proofs.YtnfpomjcofhppaaGreatDoor
namespace Go.Proofs.YtnfpomjcofhppaaGreatDoor
open Go.RowKit

abbrev walkF (pp dp : Nat) : Value := .func (.func 85) #[] #[.pointer (some ⟨pp, 0, none⟩), .pointer (some ⟨dp, 0, none⟩)]
theorem RwS.of {w : World} {a : Option Addr} {l : List Vl} (h : RowAt w a l) (hl : l.length ≤ 4294967296) : RwS (fun b => b < w.heap.size) w a l :=
  ⟨hl, h.2.1, h.2.2.imp id fun ⟨b, off, e, hlt, hc⟩ => ⟨b, off, e, hlt, hlt, hc⟩⟩
theorem only_grown {M : Nat → Prop} {w w1 w2 : World} (hg : w.grownBy w1 none) (ho : Only M w1 w2) (hM : ∀ b, M b → w.heap.size ≤ b) : w.grownBy w2 none :=
  ⟨ho.os.trans hg.os, ho.tape.trans hg.tape, ho.output.trans hg.output, Nat.le_trans hg.size ho.size, fun b hb _ => (ho.block b (Nat.lt_of_lt_of_le hb hg.size) (fun e => by have := hM b e; omega)).trans (hg.block b hb (by simp))⟩
theorem start_walk (w : World) (ka : Ptr) (kc : Nat) (key : List Vl) (hk : RowAt w ka key) (hkl : key.length ≤ 4294967296) :
    Wlk (fun b => b < w.heap.size) w.heap.size (((w.alloc (.cells #[.slice ka key.length kc] 55)).alloc (.cells #[.slice none 0 0] 192)).alloc (.cells #[.func (.func 84) #[] #[.pointer (some ⟨w.heap.size, 0, none⟩), .pointer (some ⟨w.heap.size + 1, 0, none⟩)]] 193)) w.heap.size (w.heap.size + 1) (w.heap.size + 1 + 1) ka kc key (.slice none 0 0) [] := by
  have e1 : (w.alloc (.cells #[.slice ka key.length kc] 55)).heap.size = w.heap.size + 1 := by simp
  have b1 := heap_alloc_new w (.cells #[.slice ka key.length kc] 55)
  have g1 := World.grownBy_alloc w (.cells #[.slice ka key.length kc] 55) none
  generalize w.alloc (.cells #[.slice ka key.length kc] 55) = w1 at *
  have e2 : (w1.alloc (.cells #[.slice none 0 0] 192)).heap.size = w.heap.size + 1 + 1 := by simp [e1]
  have b2 := heap_alloc_new w1 (.cells #[.slice none 0 0] 192)
  have g2 := World.grownBy_alloc w1 (.cells #[.slice none 0 0] 192) none
  rw [e1] at b2
  generalize w1.alloc (.cells #[.slice none 0 0] 192) = w2 at *
  have b3 := heap_alloc_new w2 (.cells #[.func (.func 84) #[] #[.pointer (some ⟨w.heap.size, 0, none⟩), .pointer (some ⟨w.heap.size + 1, 0, none⟩)]] 193)
  have g3 := World.grownBy_alloc w2 (.cells #[.func (.func 84) #[] #[.pointer (some ⟨w.heap.size, 0, none⟩), .pointer (some ⟨w.heap.size + 1, 0, none⟩)]] 193) none
  rw [e2] at b3
  have gg := (g1.trans g2).trans g3
  refine ⟨(g3.block _ (by omega) (by simp)).trans b2, World.ownsRow_nil _ _ _ _, by omega, (g2.trans g3).cell (cell_of_row _ _ 0 _ _ _ b1) (by simp), (RwS.of hk hkl).keep (.of gg), cell_of_row _ _ 0 _ _ _ b3, by omega, by omega, by simp [Value.ownBlock], by simp [Value.ownBlock], by simp [Value.ownBlock], by simp, fun b hb => hb, gg.size⟩
set_option maxRecDepth 100000 in
set_option maxHeartbeats 6400000 in
theorem walk_any (hc : Tr.IsOrd rowsOrd) (S : Nat → Prop) (t : Tre) (p : Ptr) (ka : Ptr) (kc : Nat) (key : List Vl) (w : World) (ht : TrAt S w t p) (hs : Tr.Sorted rowsOrd t.toL) (hn : t.n ≤ 500000000) (hk : RowAt w ka key) (hkl : key.length ≤ 4294967296) :
    Calls Tryz.prog 70 #[.pointer p, .slice ka key.length kc] w fun e w' => (∃ v xs, e = .returned (walkF (w.heap.size + 1) (w.heap.size + 1 + 1)) ∧ Wlk (fun b => b < w.heap.size) w.heap.size w' w.heap.size (w.heap.size + 1) (w.heap.size + 1 + 1) ka kc key v xs ∧ remS key xs = fromL key t.toL ∧ xs.length ≤ t.n) ∧ w.grownBy w' none := by
  have g3 := ((World.grownBy_alloc w (.cells #[.slice ka key.length kc] 55) none).trans (World.grownBy_alloc _ (.cells #[.slice none 0 0] 192) none)).trans (World.grownBy_alloc _ (.cells #[.func (.func 84) #[] #[.pointer (some ⟨w.heap.size, 0, none⟩), .pointer (some ⟨w.heap.size + 1, 0, none⟩)]] 193) none)
  have W0 := start_walk w ka kc key hk hkl
  have HD := Lib.hid (down_any hc (fun b => b < w.heap.size) w.heap.size w.heap.size (w.heap.size + 1) (w.heap.size + 1 + 1) ka kc key (.slice none 0 0) [] t p _ W0 ((ht.mono (S' := fun b => b < w.heap.size) (fun b hb _ => hb)).keep (.of g3)) hs ⟨by have := hn; simp; omega, hn⟩)
  have G3 := Lib.hid g3
  clear W0 g3 hk ht hs hc
  generalize key.length = m at *
  go_enter Tryz.func70, Tryz.ntmps70
  go_wp2_with fail
  refine HD.out.mono ?_
  rintro e w4 ⟨rfl, ⟨v, xs, hw, hg, hr, hl⟩, ho⟩
  have D := Lib.hid (And.intro hw (And.intro hr hl))
  have G4 := Lib.hid (only_grown G3.out ho (fun b hb => by
    rcases hb with rfl | hb
    · omega
    · simp [Value.ownBlock] at hb))
  clear hw hg hr hl ho
  go_wp2_with fail
  go_ret
  exact ⟨⟨v, xs, rfl, D.out.1, by have := D.out.2.1; simpa [remS] using this, by have := D.out.2.2; simpa using this⟩, G4.out⟩
end Go.Proofs.YtnfpomjcofhppaaGreatDoor
