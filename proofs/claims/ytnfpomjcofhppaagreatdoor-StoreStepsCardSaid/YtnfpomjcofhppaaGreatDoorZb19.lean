/- Commits in memory; the journal as a window of them; its New and drop. tree's Delete. The document's lists of pairs: Put. -/
import Derived.Test.YtnfpomjcofhppaaGreatDoorZb17
import Derived.Test.YtnfpomjcofhppaaGreatDoorZb09
import Derived.Test.YtnfpomjcofhppaaGreatDoorZb18
namespace Go.Proofs.YtnfpomjcofhppaaGreatDoor
open Go.RowKit

/-- A commit: its version, its changes. -/
structure Cm where
  v : Int
  a : Ptr
  cap : Nat
  l : List Cg
instance : Inhabited Cm := ⟨⟨0, none, 0, []⟩⟩
def Cm.c (x : Cm) : List Value := [.int .i64 x.v, .slice x.a x.l.length x.cap]
def Cm.p (x : Cm) : Int × List (ByteArray × List Vl × List Vl) := (x.v, x.l.map Cg.p)
theorem cm_len (l : List Cm) : (l.flatMap Cm.c).length = l.length * 2 := by
  induction l with
  | nil => rfl
  | cons x l ih => rw [List.flatMap_cons, List.length_append, ih]; simp [Cm.c]; omega
theorem cm_at (l : List Cm) : ∀ i, i < l.length → (l.flatMap Cm.c)[i * 2]? = some (.int .i64 (l.getD i default).v) ∧ (l.flatMap Cm.c)[i * 2 + 1]? = some (.slice (l.getD i default).a (l.getD i default).l.length (l.getD i default).cap) := by
  induction l with
  | nil => intro i hi; simp at hi
  | cons x l ih =>
    intro i hi
    rw [List.flatMap_cons]
    match i, hi with
    | 0, _ => exact ⟨rfl, rfl⟩
    | i + 1, hi =>
      have := ih i (by simpa using hi)
      have e : ∀ o, (Cm.c x ++ l.flatMap Cm.c)[(i + 1) * 2 + o]? = (l.flatMap Cm.c)[i * 2 + o]? := fun o => by
        rw [List.getElem?_append_right (by simp [Cm.c]; omega)]
        congr 1
        simp [Cm.c]
        omega
      have e0 := e 0
      simp only [Nat.add_zero] at e0
      rw [e0, e 1]
      simpa [List.getD] using this
theorem cm_one (x : Cm) : ∀ u ∈ Cm.c x, u.oneCell' = true := by
  intro u hu
  simp only [Cm.c, List.mem_cons, List.not_mem_nil, or_false] at hu
  rcases hu with rfl | rfl <;> rfl
theorem cm_el : ElT 27 36 (.agg #[.int .i64 0, .slice none 0 0]) 2 32 := ⟨Tryz.underlying27, info_partsT com_info, by decide, by decide, by decide⟩
/-- A slice of commits in blocks of S. -/
def CmS (S : Nat → Prop) (w : World) (a : Ptr) (l : List Cm) : Prop :=
  l.length ≤ 1000000 ∧ (∀ x ∈ l, CgS S w x.a x.l ∧ x.l.length ≤ x.cap) ∧ (l = [] ∨ ∃ b off, a = some ⟨b, off, none⟩ ∧ S b ∧ b < w.heap.size ∧ ∀ i, i < l.length → w.cell? ⟨b, off + i * 2, none⟩ = some (.int .i64 (l.getD i default).v) ∧ w.cell? ⟨b, off + i * 2 + 1, none⟩ = some (.slice (l.getD i default).a (l.getD i default).l.length (l.getD i default).cap))
theorem CmS.keep {S : Nat → Prop} {w w' : World} {a : Ptr} {l : List Cm} (h : CmS S w a l) (hk : Stays S w w') : CmS S w' a l := by
  refine ⟨h.1, fun x hx => ⟨(h.2.1 x hx).1.keep hk, (h.2.1 x hx).2⟩, h.2.2.imp id fun ⟨b, off, e, hs, hlt, hc⟩ => ⟨b, off, e, hs, Nat.lt_of_lt_of_le hlt hk.1, fun i hi => ?_⟩⟩
  have hb := hk.2 b hs hlt
  exact ⟨(World.cell?_of_block (a := ⟨b, _, none⟩) hb).trans (hc i hi).1, (World.cell?_of_block (a := ⟨b, _, none⟩) hb).trans (hc i hi).2⟩
theorem CmS.mono {S S' : Nat → Prop} {w : World} {a : Ptr} {l : List Cm} (h : CmS S w a l) (hs : ∀ b, b < w.heap.size → S b → S' b) : CmS S' w a l :=
  ⟨h.1, fun x hx => ⟨(h.2.1 x hx).1.mono hs, (h.2.1 x hx).2⟩, h.2.2.imp id fun ⟨b, off, e, h1, h2, hc⟩ => ⟨b, off, e, hs b h2 h1, h2, hc⟩⟩
theorem CmS.at {S : Nat → Prop} {w : World} {a : Ptr} {l : List Cm} (h : CmS S w a l) {i : Nat} (hi : i < l.length) : ∃ b off, a = some ⟨b, off, none⟩ ∧ b < w.heap.size ∧ w.cell? ⟨b, off + i * 2, none⟩ = some (.int .i64 (l.getD i default).v) ∧ w.cell? ⟨b, off + i * 2 + 1, none⟩ = some (.slice (l.getD i default).a (l.getD i default).l.length (l.getD i default).cap) := by
  rcases h.2.2 with h0 | ⟨b, off, e, _, hlt, hc⟩
  · rw [h0] at hi; simp at hi
  · exact ⟨b, off, e, hlt, hc i hi⟩
/-- What the journal, and the rest, may overwrite. -/
def JM (R : Nat → Prop) (J : Nat) (a : Ptr) (k : Nat) : Prop := k = J ∨ bk a k ∨ R k
/-- A journal in memory; R: what else is overwritten. -/
structure JS (R : Nat → Prop) (w : World) (J : Nat) (room en : Int) (a : Ptr) (cap : Nat) (cs : List Cm) : Prop where
  jn : Jn J w room en a cs.length cap
  win : Win 2 w a cap cs.length (cs.flatMap Cm.c)
  at_ : ∀ x ∈ cs, CgS (fun b => ¬ JM R J a b) w x.a x.l
  neJ : ¬ bk a J
  rJ : ¬ R J
  ra : ∀ k, bk a k → ¬ R k
  rl : ∀ k, R k → k < w.heap.size
  vers : ∀ i, i < cs.length → (cs.getD i default).v = en - cs.length + 1 + i
/-- Only the rest has turned. -/
theorem JS.step {R R' M : Nat → Prop} {w w' : World} {J : Nat} {room en : Int} {a : Ptr} {cap : Nat} {cs : List Cm} (h : JS R w J room en a cap cs) (ho : Only M w w') (hM : ∀ k, k < w.heap.size → M k → R k) (hR : ∀ k, R' k → R k ∨ w.heap.size ≤ k) (hl : ∀ k, R' k → k < w'.heap.size) : JS R' w' J room en a cap cs := by
  have hJ := h.jn.lt
  have hJM : ¬ M J := fun e => h.rJ (hM J hJ e)
  have hJR : ¬ R' J := fun e => by
    rcases hR J e with h1 | h1
    · exact h.rJ h1
    · omega
  have haR : ∀ k, bk a k → ¬ R' k := fun k hk e => by
    have := h.win.lt k hk
    rcases hR k e with h1 | h1
    · exact h.ra k hk h1
    · omega
  refine ⟨(ho.block J hJ hJM).trans h.jn, h.win.keep ho (fun k hk e => h.ra k hk (hM k (h.win.lt k hk) e)), fun x hx => ?_, h.neJ, hJR, haR, hl, h.vers⟩
  have h1 : CgS (fun b => ¬ JM R J a b ∧ ¬ JM R' J a b) w x.a x.l := (h.at_ x hx).mono (fun b hb hn => ⟨hn, fun e => by
    rcases e with e | e | e
    · exact hn (.inl e)
    · exact hn (.inr (.inl e))
    · rcases hR b e with h2 | h2
      · exact hn (.inr (.inr h2))
      · omega⟩)
  exact (h1.keep (ho.stays (fun b hs hb hm => hs.1 (.inr (.inr (hM b hb hm)))))).mono (fun b _ hs => hs.2)
theorem JS.keepG {R : Nat → Prop} {w w' : World} {J : Nat} {room en : Int} {a : Ptr} {cap : Nat} {cs : List Cm} (h : JS R w J room en a cap cs) (hg : w.grownBy w' none) : JS R w' J room en a cap cs :=
  h.step (M := fun _ => False) (.of_none hg) (fun _ _ e => e.elim) (fun _ e => .inl e) (fun k e => Nat.lt_of_lt_of_le (h.rl k e) hg.size)
theorem newJ_any (w : World) : Calls Tryz.prog 37 #[.int .i64 32, .int .i64 0] w fun e w' => (∃ J, e = .returned (.tuple #[.pointer (some ⟨J, 0, none⟩), .int .i64 0]) ∧ J = w.heap.size ∧ JS (fun _ => False) w' J 32 0 none 0 []) ∧ w.grownBy w' none := by
  have HJ := Lib.hid (show JS (fun _ => False) (w.alloc (.cells #[.int .i64 32, .int .i64 0, .slice none 0 0] 135)) w.heap.size 32 0 none 0 [] from ⟨heap_alloc_new _ _, Win.nil _ _, by simp, by simp [bk], by simp, by simp, by simp, by simp⟩)
  go_enter Tryz.func37, Tryz.ntmps37
  go_wp2_with fail
  go_ret2
  exact ⟨⟨_, rfl, rfl, HJ.out⟩, World.grownBy_alloc _ _ none⟩
/-- A window without its first element. -/
theorem Win.tail {sz : Nat} {w : World} {g off cap m : Nat} {hd xs : List Value} (h : Win sz w (some ⟨g, off, none⟩) (cap + 1) (m + 1) (hd ++ xs)) (hl : hd.length = sz) (a' : Ptr) (ha : 0 < cap → a' = some ⟨g, off + sz, none⟩) (hb : ∀ k, bk a' k → k = g) : Win sz w a' cap m xs := by
  have hlen := h.len
  rw [List.length_append, hl, Nat.add_mul] at hlen
  refine ⟨by omega, by have := h.le; omega, by have := h.max; omega, fun k hk => by rw [hb k hk]; exact h.lt g (by rw [bk_some]), ?_⟩
  rcases h.mem with h0 | ⟨g', off', e, hc, hs, hf⟩
  · omega
  · cases e
    rcases Nat.eq_zero_or_pos cap with h0 | h0
    · exact .inl h0
    · refine .inr ⟨g, off + sz, ha h0, fun j u hj => ?_, fun j hj => ?_, hf⟩
      · rw [Nat.add_assoc]
        exact hc (sz + j) u (by rw [List.getElem?_append_right (by omega), hl]; rw [show sz + j - sz = j by omega]; exact hj)
      · rw [Nat.add_assoc]
        exact hs _ (by rw [Nat.add_mul]; omega)
/-- A store ahead of a window. -/
theorem Win.far {sz : Nat} {w : World} {a : Ptr} {cap n : Nat} {xs : List Value} (h : Win sz w a cap n xs) (g i : Nat) (u : Value) (hi : 0 < cap → ∀ off, a = some ⟨g, off, none⟩ → i < off) : Win sz (w.setCell ⟨g, i, none⟩ u) a cap n xs := by
  refine ⟨h.len, h.le, h.max, fun k hk => by have := h.lt k hk; simpa [World.setCell] using this, ?_⟩
  rcases h.mem with h0 | ⟨g', off, e, hc, hs, hf⟩
  · exact .inl h0
  · rcases Nat.eq_zero_or_pos cap with h0 | h0
    · exact .inl h0
    · have hne : ∀ j, (w.setCell ⟨g, i, none⟩ u).cell? ⟨g', off + j, none⟩ = w.cell? ⟨g', off + j, none⟩ := fun j => World.cell?_setCell_other w ⟨g, i, none⟩ ⟨g', off + j, none⟩ u (fun e' => by
        have e1 : g = g' := congrArg Addr.block e'
        have e2 : i = off + j := congrArg Addr.off e'
        subst e1
        have := hi h0 off e
        omega)
      exact .inr ⟨g', off, e, fun j v hj => by rw [hne]; exact hc j v hj, fun j hj => by rw [hne]; exact hs j hj, fun o => by rw [World.frozen?_setCell]; exact hf o⟩
end Go.Proofs.YtnfpomjcofhppaaGreatDoor
namespace Go.Proofs.YtnfpomjcofhppaaGreatDoor
open Go.RowKit

theorem start_walkS (S : Nat → Prop) (w : World) (kc : Nat) (hS : ∀ b, S b → b < w.heap.size) :
    Wlk S w.heap.size (((w.alloc (.cells #[.slice none 0 kc] 55)).alloc (.cells #[.slice none 0 0] 192)).alloc (.cells #[.func (.func 84) #[] #[.pointer (some ⟨w.heap.size, 0, none⟩), .pointer (some ⟨w.heap.size + 1, 0, none⟩)]] 193)) w.heap.size (w.heap.size + 1) (w.heap.size + 1 + 1) none kc [] (.slice none 0 0) [] := by
  have h := start_walk w none kc [] ⟨by simp, by simp, .inl rfl⟩ (by simp)
  exact ⟨h.path, h.own, h.bp, h.kbox, ⟨by simp, by simp, .inl rfl⟩, h.dbox, h.kp_pp, h.dp_pp, h.v_pp, h.v_kp, h.v_dp, by simp, hS, h.bw⟩
set_option maxRecDepth 100000 in
set_option maxHeartbeats 6400000 in
theorem walkS_any (hc : Tr.IsOrd rowsOrd) (S : Nat → Prop) (t : Tre) (p : Ptr) (kc : Nat) (w : World) (hS : ∀ b, S b → b < w.heap.size) (ht : TrAt S w t p) (hs : Tr.Sorted rowsOrd t.toL) (hn : t.n ≤ 500000000) :
    Calls Tryz.prog 70 #[.pointer p, .slice none 0 kc] w fun e w' => (∃ v xs, e = .returned (walkF (w.heap.size + 1) (w.heap.size + 1 + 1)) ∧ Wlk S w.heap.size w' w.heap.size (w.heap.size + 1) (w.heap.size + 1 + 1) none kc [] v xs ∧ remS [] xs = t.toL) ∧ w.grownBy w' none := by
  have g3 := ((World.grownBy_alloc w (.cells #[.slice none 0 kc] 55) none).trans (World.grownBy_alloc _ (.cells #[.slice none 0 0] 192) none)).trans (World.grownBy_alloc _ (.cells #[.func (.func 84) #[] #[.pointer (some ⟨w.heap.size, 0, none⟩), .pointer (some ⟨w.heap.size + 1, 0, none⟩)]] 193) none)
  have W0 := start_walkS S w kc hS
  have HD := Lib.hid (down_any hc S w.heap.size w.heap.size (w.heap.size + 1) (w.heap.size + 1 + 1) none kc [] (.slice none 0 0) [] t p _ W0 (ht.keep (.of g3)) hs ⟨by simp; omega, hn⟩)
  have G3 := Lib.hid g3
  clear W0 g3 ht hs hc hS
  go_enter Tryz.func70, Tryz.ntmps70
  go_wp2_with fail
  refine HD.out.mono ?_
  rintro e w4 ⟨rfl, ⟨v, xs, hw, hg, hr, hl⟩, ho⟩
  have D := Lib.hid (And.intro hw hr)
  have G4 := Lib.hid (only_grown G3.out ho (fun b hb => by
    rcases hb with rfl | hb
    · omega
    · simp [Value.ownBlock] at hb))
  clear hw hg hr hl ho
  go_wp2_with fail
  go_ret
  exact ⟨⟨v, xs, rfl, D.out.1, by have := D.out.2; simpa [remS, from_nil] using this⟩, G4.out⟩
theorem Tr.del_n {K R : Type} (c : K → K → Int) : ∀ (t : Tr K R) (k : K), (Tr.del c k t).n ≤ t.n
  | .nil, k => by simp [Tr.del]
  | .node l k' v' r, k => by
    simp only [Tr.del]
    split
    · have := Tr.del_n c l k; rw [Tr.bal_n]; simp only [Tr.n]; omega
    · split
      · have := Tr.del_n c r k; rw [Tr.bal_n]; simp only [Tr.n]; omega
      · split
        · simp only [Tr.n]; omega
        · next k2 v2 _ => have := Tr.del_n c r k2; rw [Tr.bal_n]; simp only [Tr.n]; omega
/-- What stands beside each other. -/
def besT (l r : Tre) : Tre := match r.fst with
  | none => l
  | some (k2, v2) => Tr.bal l k2 v2 (Tr.del rowsOrd k2 r)
theorem beside_any (S : Nat → Prop) (l r : Tre) (lp rp : Ptr) (w : World) (hS : ∀ b, w.heap.size ≤ b → S b) (hl : TrAt S w l lp) (hr : TrAt S w r rp) (hs : Tr.Sorted rowsOrd r.toL) (hn : l.n + r.n ≤ 400000000)
    (hD : ∀ (k : List Vl) (W : World) (ka : Ptr) (kc : Nat), w.grownBy W none → RwS S W ka k → Makes 64 #[.pointer rp, .slice ka k.length kc] W (fun W p => TrAt S W (Tr.del rowsOrd k r) p)) :
    Makes 81 #[.pointer lp, .pointer rp] w (fun W p => TrAt S W (besT l r) p) := by
  have hf := Tr.fst_toL r
  cases hrl : r.toL with
  | nil =>
    rw [hrl] at hf
    have hr0 : r = .nil := by
      have := Tr.n_toL r
      rw [hrl] at this
      exact Tr.n_zero this
    subst hr0
    obtain rfl : rp = none := hr
    exact beside_nil lp w _ hl
  | cons kv rest =>
    obtain ⟨k2, v2⟩ := kv
    rw [hrl] at hf
    have hb : besT l r = Tr.bal l k2 v2 (Tr.del rowsOrd k2 r) := by unfold besT; rw [hf]; rfl
    rw [hb]
    have hrn : rest.length ≤ 400000000 := by
      have := Tr.n_toL r
      rw [hrl] at this
      simp at this
      omega
    cases hrp : rp with
    | none =>
      subst hrp
      cases r with
      | nil => simp [Tr.toL] at hrl
      | node _ _ _ _ => obtain ⟨_, _, _, _, _, _, _, e, _⟩ := hr; cases e
    | some ra =>
      subst hrp
      have hr' : TrAt (fun b => S b ∧ b < w.heap.size) w r (some ra) := hr.mono (fun b hb hs => ⟨hs, hb⟩)
      refine beside_gen ra lp w (fun W p => TrAt S W (Tr.del rowsOrd k2 r) p) _ (w.heap.size + 1) (w.heap.size + 1 + 1)
        (fun W => ∃ v xs, Wlk (fun b => S b ∧ b < w.heap.size) w.heap.size W w.heap.size (w.heap.size + 1) (w.heap.size + 1 + 1) none 0 [] v xs ∧ remS [] xs = r.toL)
        (fun W p b ka m kc va q vc => m = k2.length ∧ q = v2.length ∧ RwS S W ka k2 ∧ RwS S W va v2) (Lib.hid ?_) (Lib.hid ?_) (Lib.hid ?_) (Lib.hid ?_)
      · refine (walkS_any ro_ord (fun b => S b ∧ b < w.heap.size) r (some ra) 0 w (fun b hb => hb.2) hr' hs (by omega)).mono ?_
        rintro e w' ⟨⟨v, xs, rfl, h1, h2⟩, hg⟩
        exact ⟨rfl, ⟨v, xs, h1, h2⟩, hg⟩
      · rintro W ⟨v, xs, h1, h2⟩ hg
        refine (next_more ro_ord _ _ _ _ _ _ _ _ _ _ W k2 v2 rest h1 (h2.trans hrl) hrn).mono ?_
        rintro e w' ⟨⟨p, rfl, b, ka, kc, va, vc, rfl, hSb, hb, c0, c1, q1, q2⟩, _, ho⟩
        refine ⟨⟨b, ka, _, kc, va, _, vc, rfl, c0, c1, rfl, rfl, q1.mono (fun b _ h => h.1), q2.mono (fun b _ h => h.1)⟩, only_grown hg ho (fun b hb => ?_)⟩
        rcases hb with rfl | hb
        · omega
        · exact (World.ownsRow.lt h1.own b hb).1
      · rintro W W' p b ka m kc va q vc hg ⟨rfl, rfl, h1, h2⟩ hg'
        exact hD k2 W' ka kc (hg.trans hg') (h1.keep (.of hg'))
      · rintro W W' p b ka m kc va q vc p1 hg ⟨rfl, rfl, h1, h2⟩ hg' hp1
        have dn := Tr.del_n rowsOrd r k2
        exact balanced_any S l (Tr.del rowsOrd k2 r) k2 v2 lp p1 ka va kc vc W' (hsS hS (hg.trans hg')) (hl.keep (.of (hg.trans hg'))) hp1 (h1.keep (.of hg')) (h2.keep (.of hg')) (by omega)
theorem delete_any (S : Nat → Prop) : ∀ (t : Tre) (k : List Vl) (ka : Ptr) (kc : Nat) (p : Ptr) (w : World), (∀ b, w.heap.size ≤ b → S b) → TrAt S w t p → RowAt w ka k → Tr.Sorted rowsOrd t.toL → t.n ≤ 400000000 →
    Makes 64 #[.pointer p, .slice ka k.length kc] w (fun W p => TrAt S W (Tr.del rowsOrd k t) p)
  | .nil, k, ka, kc, p, w, hS, h, hk, _, _ => by
    obtain rfl : p = none := h
    exact del_nil ka k.length kc w _ rfl (Lib.hid fun W _ => len_any S .nil none W rfl)
  | .node l k' v' r, k, ka, kc, p, w, hS, h, hk, hs, hn => by
    have H := h
    obtain ⟨b, tka, tkc, tva, tvc, lp, rp, rfl, _, _, ⟨c0, c1, c2, c3, _, _⟩, h1, h2, h3, h4⟩ := h
    have hn0 : 0 < Tr.n (.node l k' v' r) := by simp [Tr.n]; omega
    have dl := Tr.del_n rowsOrd l k
    have dr := Tr.del_n rowsOrd r k
    have hnn : l.n + 1 + r.n ≤ 400000000 := by simpa [Tr.n] using hn
    have HL := Lib.hid (fun W (hW : w.grownBy W none) => len_any S _ _ W (H.keep (.of hW)))
    have HC := Lib.hid (fun W (hW : w.grownBy W none) => rows_grown ka tka kc tkc k k' W (hk.keep (below_grownT hW)) ((h1.keep (.of hW)).row))
    by_cases hlt : rowsOrd k k' < 0
    · have e : Tr.del rowsOrd k (.node l k' v' r) = Tr.bal (Tr.del rowsOrd k l) k' v' r := by simp only [Tr.del]; rw [if_pos hlt]
      rw [e]
      exact del_lt b lp rp ka tka tva k.length kc k'.length tkc v'.length tvc _ _ w (fun W p => TrAt S W (Tr.del rowsOrd k l) p) _ hn0 hlt ⟨c0, c1, c2, c3⟩ HL HC
        (Lib.hid fun W hW => delete_any S l k ka kc lp W (hsS hS hW) (h3.keep (.of hW)) (hk.keep (below_grownT hW)) (sorted_l hs) (by omega))
        (Lib.hid fun W p hW hp => balanced_any S (Tr.del rowsOrd k l) r k' v' p rp tka tva tkc tvc W (hsS hS hW) hp (h4.keep (.of hW)) (h1.keep (.of hW)) (h2.keep (.of hW)) (by omega))
    · by_cases hgt : 0 < rowsOrd k k'
      · have e : Tr.del rowsOrd k (.node l k' v' r) = Tr.bal l k' v' (Tr.del rowsOrd k r) := by simp only [Tr.del]; rw [if_neg hlt, if_pos hgt]
        rw [e]
        exact del_gt b lp rp ka tka tva k.length kc k'.length tkc v'.length tvc _ _ w (fun W p => TrAt S W (Tr.del rowsOrd k r) p) _ hn0 hgt ⟨c0, c1, c2, c3⟩ HL HC
          (Lib.hid fun W hW => delete_any S r k ka kc rp W (hsS hS hW) (h4.keep (.of hW)) (hk.keep (below_grownT hW)) (sorted_r hs) (by omega))
          (Lib.hid fun W p hW hp => balanced_any S l (Tr.del rowsOrd k r) k' v' lp p tka tva tkc tvc W (hsS hS hW) (h3.keep (.of hW)) hp (h1.keep (.of hW)) (h2.keep (.of hW)) (by omega))
      · have e : Tr.del rowsOrd k (.node l k' v' r) = besT l r := by
          simp only [Tr.del]; rw [if_neg hlt, if_neg hgt]; unfold besT
          cases Tr.fst r with
          | none => rfl
          | some x => rfl
        rw [e]
        exact del_eq b lp rp ka tka tva k.length kc k'.length tkc v'.length tvc _ _ w _ hn0 (by omega) ⟨c0, c1, c2, c3⟩ HL HC
          (Lib.hid fun W hW => beside_any S l r lp rp W (hsS hS hW) (h3.keep (.of hW)) (h4.keep (.of hW)) (sorted_r hs) (by omega)
            (fun k2 W' ka2 kc2 hW' hk2 => delete_any S r k2 ka2 kc2 rp W' (hsS hS (hW.trans hW')) (h4.keep (.of (hW.trans hW'))) hk2.row (sorted_r hs) (by omega)))
end Go.Proofs.YtnfpomjcofhppaaGreatDoor
namespace Go.Proofs.YtnfpomjcofhppaaGreatDoor
open Go.RowKit

theorem own_ps2 {S : Nat → Prop} {B : Nat} {w : World} {v : Value} {l : List Pw} (h : w.ownsRow B 104 2 v l.length (l.flatMap Pw.c)) (hS : ∀ b, B ≤ b → S b) (hl : l.length ≤ 100000) (hs : ∀ x ∈ l, RwS S w x.k.a x.k.l ∧ RwS S w x.r.a x.r.l) : ∃ a cap, v = .slice a l.length cap ∧ l.length ≤ cap ∧ PsS S w a l := by
  obtain ⟨a, cap, hv, hp⟩ := own_ps h hS hl hs
  refine ⟨a, cap, hv, ?_, hp⟩
  rcases h.2 with ⟨e, h0⟩ | ⟨g, c, cur, e, _, _, q, _⟩
  · omega
  · rw [hv] at e; cases e; exact q
theorem delP_mem {k : List Vl} {l : List Pw} {x : Pw} (h : x ∈ delP k l) : x ∈ l := (List.mem_filter.1 h).1
theorem delP_len (k : List Vl) (l : List Pw) : (delP k l).length ≤ l.length := List.length_filter_le _ _
theorem refDelete_ps (S : Nat → Prop) (a ka : Ptr) (cap kc : Nat) (l : List Pw) (k : List Vl) (w : World) (hS : ∀ b, w.heap.size ≤ b → S b) (h : PsS S w a l) (hcap : l.length ≤ cap) (hk : RowAt w ka k) :
    Calls Tryz.prog 32 #[.slice a l.length cap, .slice ka k.length kc] w fun e w' => (∃ a' cap', e = .returned (.slice a' (delP k l).length cap') ∧ (delP k l).length ≤ cap' ∧ PsS S w' a' (delP k l)) ∧ w.grownBy w' none := by
  refine (refDelete_any S a ka cap kc l k w h hcap hk).mono ?_
  rintro e w' ⟨⟨v, rfl, ho⟩, hg⟩
  obtain ⟨a', cap', rfl, hc, hp⟩ := own_ps2 (S := S) ho hS (Nat.le_trans (delP_len k l) h.1) (fun x hx => ⟨(h.2.1 x (delP_mem hx)).1.keep (.of hg), (h.2.1 x (delP_mem hx)).2.keep (.of hg)⟩)
  exact ⟨⟨a', cap', rfl, hc, hp⟩, hg⟩
/-- A pair is put ahead of the first greater key. -/
def insP (x : Pw) : List Pw → List Pw
  | [] => [x]
  | y :: l => if rowsOrd x.k.l y.k.l < 0 then x :: y :: l else y :: insP x l
theorem insP_len (x : Pw) : ∀ l : List Pw, (insP x l).length = l.length + 1
  | [] => rfl
  | y :: l => by
    simp only [insP]
    split
    · rfl
    · simp [insP_len x l]
theorem insP_mem {x y : Pw} : ∀ {l : List Pw}, y ∈ insP x l → y = x ∨ y ∈ l
  | [], h => by simpa [insP] using h
  | z :: l, h => by
    simp only [insP] at h
    split at h
    · simpa using h
    · rcases List.mem_cons.1 h with h | h
      · exact .inr (by simp [h])
      · rcases insP_mem h with h | h
        · exact .inl h
        · exact .inr (by simp [h])
/-- How far Put has come. -/
def PutSt (x : Pw) (D O : List Pw) (j : Nat) (d : Bool) : Prop := (d = false ∧ O = D.take j ∧ insP x D = D.take j ++ insP x (D.drop j)) ∨ (d = true ∧ insP x D = O ++ D.drop j)
theorem drop_at {D : List Pw} {j : Nat} (h : j < D.length) : D.drop j = D.getD j default :: D.drop (j + 1) := by
  rw [List.drop_eq_getElem_cons h]; simp [List.getD, h]
theorem take_at {D : List Pw} {j : Nat} (h : j < D.length) : D.take (j + 1) = D.take j ++ [D.getD j default] := by
  rw [List.take_succ_eq_append_getElem h]; simp [List.getD, h]
theorem PutSt.lt {x : Pw} {D O : List Pw} {j : Nat} (h : PutSt x D O j false) (hj : j < D.length) (hc : rowsOrd x.k.l (D.getD j default).k.l < 0) : PutSt x D (O ++ [x] ++ [D.getD j default]) (j + 1) true := by
  rcases h with ⟨_, rfl, h⟩ | ⟨h, _⟩
  · refine .inr ⟨rfl, ?_⟩
    rw [h, drop_at hj]
    generalize D.getD j default = y at *
    simp [insP, hc]
  · cases h
theorem PutSt.ge {x : Pw} {D O : List Pw} {j : Nat} (h : PutSt x D O j false) (hj : j < D.length) (hc : ¬ rowsOrd x.k.l (D.getD j default).k.l < 0) : PutSt x D (O ++ [D.getD j default]) (j + 1) false := by
  rcases h with ⟨_, rfl, h⟩ | ⟨h, _⟩
  · refine .inl ⟨rfl, (take_at hj).symm, ?_⟩
    rw [h, drop_at hj, take_at hj]
    generalize D.getD j default = y at *
    simp [insP, hc]
  · cases h
theorem PutSt.go {x : Pw} {D O : List Pw} {j : Nat} (h : PutSt x D O j true) (hj : j < D.length) : PutSt x D (O ++ [D.getD j default]) (j + 1) true := by
  rcases h with ⟨h, _⟩ | ⟨_, h⟩
  · cases h
  · refine .inr ⟨rfl, ?_⟩
    rw [h, drop_at hj]
    simp
theorem own_more {w : World} {B g cp q : Nat} {O : List Pw} {x : Pw} (h : w.ownsRow B 104 2 (.slice (some ⟨g, 0, none⟩) (q + 1) cp) (q + 1) (O.flatMap Pw.c ++ [x.k.v, x.r.v])) : w.ownsRow B 104 2 (.slice (some ⟨g, 0, none⟩) (q + 1) cp) (q + 1) ((O ++ [x]).flatMap Pw.c) := by
  rw [List.flatMap_append, List.flatMap_cons, List.flatMap_nil, List.append_nil]
  exact h
theorem cells_far {S : Nat → Prop} {w w1 wr w3 w4 : World} {D : List Pw} {v : Value} {n : Nat} {xs : List Value} {b off j : Nat} {x y : Value} (hP : PsS S w1 (some ⟨b, off, none⟩) D ∧ w.grownBy w1 none) (_hgr : w1.grownBy wr none) (hj : j < D.length) (ho : wr.ownsRow w1.heap.size 104 2 v n xs) (hg : w3.grownBy w4 v.ownBlock) (hf : w3.cell? ⟨b, off + j * 2, none⟩ = some x ∧ w3.cell? ⟨b, off + j * 2 + 1, none⟩ = some y) : w4.cell? ⟨b, off + j * 2, none⟩ = some x ∧ w4.cell? ⟨b, off + j * 2 + 1, none⟩ = some y := by
  obtain ⟨b', off', e, hlt, _⟩ := hP.1.at hj
  cases e
  have hne : some b ≠ v.ownBlock := fun e => by have := (World.ownsRow.lt ho b e.symm).1; omega
  exact ⟨hg.cell hf.1 hne, hg.cell hf.2 hne⟩
set_option maxRecDepth 100000 in
set_option maxHeartbeats 12800000 in
theorem refPut_any (S : Nat → Prop) (a ka ra : Ptr) (cap kc rc : Nat) (l : List Pw) (k r : List Vl) (w : World) (hS : ∀ b, w.heap.size ≤ b → S b) (h : PsS S w a l) (hcap : l.length ≤ cap) (hk : RwS S w ka k) (hr : RwS S w ra r) (hkg : k.all Vl.good = true) (hlg : ∀ x ∈ l, x.k.l.all Vl.good = true) (hl : l.length ≤ 90000) :
    Calls Tryz.prog 12 #[.slice a l.length cap, .slice ka k.length kc, .slice ra r.length rc] w fun e w' => (∃ a' cap', e = .returned (.slice a' (insP ⟨⟨ka, kc, k⟩, ⟨ra, rc, r⟩⟩ (delP k l)).length cap') ∧ (insP ⟨⟨ka, kc, k⟩, ⟨ra, rc, r⟩⟩ (delP k l)).length ≤ cap' ∧ PsS S w' a' (insP ⟨⟨ka, kc, k⟩, ⟨ra, rc, r⟩⟩ (delP k l))) ∧ w.grownBy w' none := by
  have HD := Lib.hid (refDelete_ps S a ka cap kc l k w hS h hcap hk.row)
  have HG := Lib.hid (fun x (hx : x ∈ delP k l) => hlg x (delP_mem hx))
  have HDl := Nat.le_trans (delP_len k l) hl
  have HK := Lib.hid (And.intro hk (And.intro hr hkg))
  have HSS := Lib.hid hS
  obtain ⟨D, hD⟩ : ∃ D, D = delP k l := ⟨_, rfl⟩
  rw [← hD] at HD HG HDl ⊢
  obtain ⟨X, hX⟩ : ∃ X : Pw, X = ⟨⟨ka, kc, k⟩, ⟨ra, rc, r⟩⟩ := ⟨_, rfl⟩
  have HX := Lib.hid hX
  rw [← hX]
  obtain ⟨m, hm⟩ : ∃ m, m = k.length := ⟨_, rfl⟩
  obtain ⟨rm, hrm⟩ : ∃ rm, rm = r.length := ⟨_, rfl⟩
  have Hm := Lib.hid hm
  have Hrm := Lib.hid hrm
  rw [← hm] at HD ⊢
  rw [← hrm]
  generalize l.length = ln at *
  clear h hk hr hkg hlg hD hX hm hrm hS
  obtain ⟨i0, hi, hz0, hz1, hz2⟩ := info_partsT pair_info
  go_enter Tryz.func12, Tryz.ntmps12
  go_wp2_with fail
  refine HD.out.mono ?_
  rintro e w1 ⟨⟨a1, cap1, rfl, hcap1, hp1⟩, hg1⟩
  have HP := Lib.hid (And.intro hp1 hg1)
  have HRo := Lib.hid (fun i (hi : i < D.length) W (hW : w1.grownBy W none) => (refRows_any ka (D.getD i default).k.a kc (D.getD i default).k.cap k (D.getD i default).k.l W (HK.out.1.keep (.of (hg1.trans hW))).row ((hp1.mem hi).1.keep (.of hW)).row HK.out.2.2 (HG.out _ (by simp [List.getD, hi]))).mono fun e w' h => And.intro h.1 (grown_belowT h.2 none))
  obtain ⟨n, hn⟩ : ∃ n, n = D.length := ⟨_, rfl⟩
  have Hn := Lib.hid hn
  rw [← hn] at HDl HRo hcap1 ⊢
  rw [← Hm.out] at HRo
  clear hp1 hg1 hn HD
  go_wp2_with fail
  go_loopw [7, 8, 15] (fun s d i wr => ∃ (ao : Ptr) (q co j : Nat) (dn : Bool), s = .slice ao q co ∧ d = .bool dn ∧ i = .int .i64 j ∧ j ≤ n ∧ q ≤ j + 1 ∧ Hid (∃ O : List Pw, O.length = q ∧ PutSt X D O j dn ∧ wr.ownsRow w1.heap.size 104 2 (.slice ao q co) q (O.flatMap Pw.c) ∧ w1.grownBy wr none)) (fun _ _ i _ => n - (intOf i).toNat)
  case atStart => exact ⟨none, 0, 0, 0, false, rfl, rfl, rfl, by omega, by omega, Lib.hid ⟨[], rfl, .inl ⟨rfl, by simp, by simp⟩, World.ownsRow_nil _ _ _ _, grown_reflT _ _⟩⟩
  case round =>
    obtain ⟨ao, q, co, j, dn, rfl, rfl, rfl, hj, hqj, I⟩ := hrel
    by_cases hlt : j < n
    · obtain ⟨O, hO, hst, hown, hgr⟩ := I.out
      obtain ⟨b, off, rfl, hb, c0, c1⟩ := (HP.out.1.keep (.of hgr)).at (i := j) (by rw [← Hn.out]; exact hlt)
      have HR1 := Lib.hid (HRo.out j hlt wr hgr)
      have hjD : j < D.length := by rw [← Hn.out]; exact hlt
      obtain ⟨x, hx⟩ : ∃ x, x = D.getD j default := ⟨_, rfl⟩
      have Hx := Lib.hid hx
      rw [← hx] at c0 c1 HR1
      clear hx
      obtain ⟨⟨xka, xkc, xkl⟩, ⟨xra, xrc, xrl⟩⟩ := x
      simp only [Rw.v] at c0 c1 HR1
      have HJ := Lib.hid (And.intro hO (And.intro hst (And.intro hown hgr)))
      have hB : w1.heap.size ≤ wr.heap.size := hgr.size
      have i1 : (j : Int) ≤ cap1 := by omega
      clear hown hgr I hst
      obtain ⟨y, hy⟩ : ∃ y, y = xkl.length := ⟨_, rfl⟩
      obtain ⟨z, hz⟩ : ∃ z, z = xrl.length := ⟨_, rfl⟩
      have Hy := Lib.hid hy
      have Hz := Lib.hid hz
      rw [← hy] at c0 HR1
      rw [← hz] at c1
      clear hy hz hjD
      have F := Lib.hid (fun (W : World) (hW : wr.grownBy W none) => And.intro (hW.cell c0 (by simp)) (hW.cell c1 (by simp)))
      cases dn
      · by_cases hc : rowsOrd k xkl < 0
        · generalize hcc : rowsOrd k xkl = cc at *
          have Hcc := Lib.hid hcc
          clear hcc
          go_wp2_with fail
          refine HR1.out.mono ?_
          rintro e w2 ⟨rfl, hg2⟩
          have G2 := Lib.hid hg2
          have O2 := Lib.hid (World.ownsRow.kept HJ.out.2.2.1 hg2 (by cases (Value.slice ao q co).ownBlock <;> simp))
          have hB2 : w1.heap.size ≤ w2.heap.size := Nat.le_trans hB hg2.size
          clear hg2 c0 c1
          go_wp2_with (at_builtin; refine wpList_append_lies _ rfl _ _ 56 rfl w1.heap.size 104 i0 (.agg #[.slice none 0 0, .slice none 0 0]) 2 48 Tryz.underlying56 hi hz0 hz1 hz2 rfl (by decide) (.slice ao q co) q (O.flatMap Pw.c) rfl (World.ownsRow.alloc O2.out _) ⟨w2.heap.size, 0, none⟩ 1 1 [.slice ka m kc, .slice ra rm rc] rfl rfl (two_at (Box2.new w2 _ _ _)) (two_one _ _ _ _ _ _) (by decide) (by unfold maxLen; omega) (by omega) (by simp; omega) _ rfl ?_)
          intro g cp w4 hown4 hgrow4 hgb hg4
          obtain ⟨d0, d1⟩ : w4.cell? ⟨b, off + j * 2, none⟩ = some (.slice xka y xkc) ∧ w4.cell? ⟨b, off + j * 2 + 1, none⟩ = some (.slice xra z xrc) := by
            have hf := F.out _ (G2.out.trans (World.grownBy_alloc w2 (.cells #[.slice ka m kc, .slice ra rm rc] 104) none))
            exact cells_far HP.out HJ.out.2.2.2 (by rw [← Hn.out]; exact hlt) HJ.out.2.2.1 hgrow4 hf
          have K4 := Lib.hid (grown_thenT ((HJ.out.2.2.2.trans G2.out).trans (World.grownBy_alloc w2 (.cells #[.slice ka m kc, .slice ra rm rc] 104) none)) hgrow4 (fun x hx => (World.ownsRow.lt HJ.out.2.2.1 x hx).1))
          have O4 := Lib.hid hown4
          have hB4 : w1.heap.size ≤ w4.heap.size := K4.out.size
          clear hown4 hgrow4 hgb hg4
          go_wp2_with (at_builtin; refine wpList_append_lies _ rfl _ _ 56 rfl w1.heap.size 104 i0 (.agg #[.slice none 0 0, .slice none 0 0]) 2 48 Tryz.underlying56 hi hz0 hz1 hz2 rfl (by decide) (.slice (some ⟨g, 0, none⟩) (q + 1) cp) (q + 1) (O.flatMap Pw.c ++ [.slice ka m kc, .slice ra rm rc]) rfl (World.ownsRow.alloc O4.out _) ⟨w4.heap.size, 0, none⟩ 1 1 [.slice xka y xkc, .slice xra z xrc] rfl rfl (two_at (Box2.new w4 _ _ _)) (two_one _ _ _ _ _ _) (by decide) (by unfold maxLen; omega) (by omega) (by simp; omega) _ rfl ?_)
          intro g5 cp5 w5 hown5 hgrow5 hgb5 hg5
          have E5 := Lib.hid (And.intro hown5 hgrow5)
          clear hown5 hgrow5 hgb5 hg5 d0 d1
          go_wp2_with fail
          go_roundw
          case rel =>
            obtain ⟨hown5, hgrow5⟩ := E5.out
            have hq' : q ≤ j := by
              rcases HJ.out.2.1 with ⟨_, e, _⟩ | ⟨h, _⟩
              · rw [← HJ.out.1, e, List.length_take]; omega
              · cases h
            rw [Hy.out, Hz.out] at hown5
            have o4 := O4.out
            rw [Hm.out, Hrm.out] at o4 hown5
            refine ⟨some ⟨g5, 0, none⟩, q + 1 + 1, cp5, j + 1, true, rfl, rfl, by go_num, by omega, by omega, Lib.hid ⟨O ++ [X] ++ [D.getD j default], by simp [HJ.out.1], HJ.out.2.1.lt (by rw [← Hn.out]; exact hlt) (by rw [HX.out, ← Hx.out]; show rowsOrd k xkl < 0; rw [Hcc.out]; exact hc), ?_, ?_⟩⟩
            · rw [← Hx.out, HX.out]
              refine own_more (O := O ++ [⟨⟨ka, kc, k⟩, ⟨ra, rc, r⟩⟩]) (x := ⟨⟨xka, xkc, xkl⟩, ⟨xra, xrc, xrl⟩⟩) ?_
              rw [List.flatMap_append, List.flatMap_cons, List.flatMap_nil, List.append_nil, List.append_assoc]
              exact hown5
            · exact grown_thenT (K4.out.trans (World.grownBy_alloc w4 _ none)) hgrow5 (fun x hx => (World.ownsRow.lt o4 x hx).1)
          case measure => simp [intOf]; omega
        · generalize hcc : rowsOrd k xkl = cc at *
          have Hcc := Lib.hid hcc
          clear hcc
          go_wp2_with fail
          refine HR1.out.mono ?_
          rintro e w2 ⟨rfl, hg2⟩
          have G2 := Lib.hid hg2
          obtain ⟨d0, d1⟩ := F.out _ hg2
          have O2 := Lib.hid (World.ownsRow.kept HJ.out.2.2.1 hg2 (by cases (Value.slice ao q co).ownBlock <;> simp))
          have hB2 : w1.heap.size ≤ w2.heap.size := Nat.le_trans hB hg2.size
          clear hg2 c0 c1
          go_wp2_with (at_builtin; refine wpList_append_lies _ rfl _ _ 56 rfl w1.heap.size 104 i0 (.agg #[.slice none 0 0, .slice none 0 0]) 2 48 Tryz.underlying56 hi hz0 hz1 hz2 rfl (by decide) (.slice ao q co) q (O.flatMap Pw.c) rfl (World.ownsRow.alloc O2.out _) ⟨w2.heap.size, 0, none⟩ 1 1 [.slice xka y xkc, .slice xra z xrc] rfl rfl (two_at (Box2.new w2 _ _ _)) (two_one _ _ _ _ _ _) (by decide) (by unfold maxLen; omega) (by omega) (by simp; omega) _ rfl ?_)
          intro g4 cp4 w4 hown4 hgrow4 hgb4 hg4
          have E4 := Lib.hid (And.intro hown4 hgrow4)
          clear hown4 hgrow4 hgb4 hg4 d0 d1
          go_wp2_with fail
          go_roundw
          case rel =>
            obtain ⟨hown4, hgrow4⟩ := E4.out
            rw [Hy.out, Hz.out] at hown4
            refine ⟨some ⟨g4, 0, none⟩, q + 1, cp4, j + 1, false, rfl, rfl, by go_num, by omega, by omega, Lib.hid ⟨O ++ [D.getD j default], by simp [HJ.out.1], HJ.out.2.1.ge (by rw [← Hn.out]; exact hlt) (by rw [HX.out, ← Hx.out]; show ¬ rowsOrd k xkl < 0; rw [Hcc.out]; omega), ?_, ?_⟩⟩
            · rw [← Hx.out]
              exact own_more (x := ⟨⟨xka, xkc, xkl⟩, ⟨xra, xrc, xrl⟩⟩) hown4
            · exact grown_thenT ((HJ.out.2.2.2.trans G2.out).trans (World.grownBy_alloc w2 _ none)) hgrow4 (fun x hx => (World.ownsRow.lt HJ.out.2.2.1 x hx).1)
          case measure => simp [intOf]; omega
      · have O2 := Lib.hid HJ.out.2.2.1
        go_wp2_with (at_builtin; refine wpList_append_lies _ rfl _ _ 56 rfl w1.heap.size 104 i0 (.agg #[.slice none 0 0, .slice none 0 0]) 2 48 Tryz.underlying56 hi hz0 hz1 hz2 rfl (by decide) (.slice ao q co) q (O.flatMap Pw.c) rfl (World.ownsRow.alloc O2.out _) ⟨wr.heap.size, 0, none⟩ 1 1 [.slice xka y xkc, .slice xra z xrc] rfl rfl (two_at (Box2.new wr _ _ _)) (two_one _ _ _ _ _ _) (by decide) (by unfold maxLen; omega) (by omega) (by simp; omega) _ rfl ?_)
        intro g4 cp4 w4 hown4 hgrow4 hgb4 hg4
        have E4 := Lib.hid (And.intro hown4 hgrow4)
        clear hown4 hgrow4 hgb4 hg4 c0 c1
        go_wp2_with fail
        go_roundw
        case rel =>
          obtain ⟨hown4, hgrow4⟩ := E4.out
          rw [Hy.out, Hz.out] at hown4
          refine ⟨some ⟨g4, 0, none⟩, q + 1, cp4, j + 1, true, rfl, rfl, by go_num, by omega, by omega, Lib.hid ⟨O ++ [D.getD j default], by simp [HJ.out.1], HJ.out.2.1.go (by rw [← Hn.out]; exact hlt), ?_, ?_⟩⟩
          · rw [← Hx.out]
            exact own_more (x := ⟨⟨xka, xkc, xkl⟩, ⟨xra, xrc, xrl⟩⟩) hown4
          · exact grown_thenT (HJ.out.2.2.2.trans (World.grownBy_alloc wr _ none)) hgrow4 (fun x hx => (World.ownsRow.lt HJ.out.2.2.1 x hx).1)
        case measure => simp [intOf]; omega
    · obtain rfl : n = j := by omega
      obtain ⟨O, hO, hst, hown, hgr⟩ := I.out
      have hB : w1.heap.size ≤ wr.heap.size := hgr.size
      have HJ := Lib.hid (And.intro hO (And.intro hst (And.intro hown hgr)))
      clear hst hown hgr I
      have hend : ∀ (O' : List Pw) (W : World) (v : Value), insP X D = O' → w1.grownBy W none → W.ownsRow w1.heap.size 104 2 v O'.length (O'.flatMap Pw.c) → (∃ a' cap', v = .slice a' (insP X D).length cap' ∧ (insP X D).length ≤ cap' ∧ PsS S W a' (insP X D)) ∧ w.grownBy W none := fun O' W v e hg ho => by
        subst e
        have hgw := HP.out.2.trans hg
        obtain ⟨a', cap', hv, hc, hp⟩ := own_ps2 (S := S) ho (fun b hb => HSS.out b (Nat.le_trans HP.out.2.size hb)) (by rw [insP_len, ← Hn.out]; omega) (fun x hx => by
          rcases insP_mem hx with rfl | hx
          · rw [HX.out]
            exact ⟨HK.out.1.keep (.of hgw), HK.out.2.1.keep (.of hgw)⟩
          · exact ⟨(HP.out.1.2.1 x hx).1.keep (.of hg), (HP.out.1.2.1 x hx).2.keep (.of hg)⟩)
        exact ⟨⟨a', cap', hv, hc, hp⟩, hgw⟩
      have HE := Lib.hid hend
      clear hend
      cases dn
      · have O2 := Lib.hid HJ.out.2.2.1
        go_wp2_with (at_builtin; refine wpList_append_lies _ rfl _ _ 56 rfl w1.heap.size 104 i0 (.agg #[.slice none 0 0, .slice none 0 0]) 2 48 Tryz.underlying56 hi hz0 hz1 hz2 rfl (by decide) (.slice ao q co) q (O.flatMap Pw.c) rfl (World.ownsRow.alloc O2.out _) ⟨wr.heap.size, 0, none⟩ 1 1 [.slice ka m kc, .slice ra rm rc] rfl rfl (two_at (Box2.new wr _ _ _)) (two_one _ _ _ _ _ _) (by decide) (by unfold maxLen; omega) (by omega) (by simp; omega) _ rfl ?_)
        intro g4 cp4 w4 hown4 hgrow4 hgb4 hg4
        have E4 := Lib.hid (And.intro hown4 hgrow4)
        clear hown4 hgrow4 hgb4 hg4
        go_wp2_with fail
        go_ret
        obtain ⟨hown4, hgrow4⟩ := E4.out
        rw [Hm.out, Hrm.out] at hown4
        have hst := HJ.out.2.1
        rcases hst with ⟨_, rfl, he⟩ | ⟨h, _⟩
        · rw [Hn.out, List.drop_length, List.take_length] at he
          have hq := HJ.out.1
          rw [Hn.out, List.take_length] at hq hown4
          have ho := own_more (x := ⟨⟨ka, kc, k⟩, ⟨ra, rc, r⟩⟩) hown4
          have := HE.out (D ++ [X]) w4 (.slice (some ⟨g4, 0, none⟩) (q + 1) cp4) he (grown_thenT (HJ.out.2.2.2.trans (World.grownBy_alloc wr _ none)) hgrow4 (fun x hx => (World.ownsRow.lt HJ.out.2.2.1 x hx).1)) (by rw [HX.out]; rw [List.length_append, hq]; exact ho)
          obtain ⟨⟨a', cap', hv, hc, hp⟩, hgw⟩ := this
          exact ⟨⟨a', cap', congrArg Ending.returned hv, hc, hp⟩, hgw⟩
        · cases h
      · go_wp2_with fail
        go_ret
        have hst := HJ.out.2.1
        rcases hst with ⟨h, _⟩ | ⟨_, he⟩
        · cases h
        · rw [Hn.out, List.drop_length, List.append_nil] at he
          have := HE.out O wr (.slice ao q co) he HJ.out.2.2.2 (by rw [HJ.out.1]; exact HJ.out.2.2.1)
          obtain ⟨⟨a', cap', hv, hc, hp⟩, hgw⟩ := this
          exact ⟨⟨a', cap', congrArg Ending.returned hv, hc, hp⟩, hgw⟩
end Go.Proofs.YtnfpomjcofhppaaGreatDoor
