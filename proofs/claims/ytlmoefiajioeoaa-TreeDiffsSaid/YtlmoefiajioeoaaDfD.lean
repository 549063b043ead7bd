/- tree's Diff at any two trees. -/
import Derived.Test.YtlmoefiajioeoaaDfS
import Derived.Deep.DeepCutAuto
namespace Go.Proofs.Ytlmoefiajioeoaa
open Go.RowKit

theorem told_step {B k1 p1 d1 k2 p2 d2 q co g cp : Nat} {ao : Ptr} {W Wa Wb : World} {v1 v2 : Value} {xs1 xs2 : List (Ptr × Tre)} {O : List Cw} {x : Cw}
    (hT : Two B k1 p1 d1 k2 p2 d2 W v1 xs1 v2 xs2) (hO : OutAt B W (.slice ao q co) O (MM k1 p1 d1 v1 k2 p2 d2 v2)) (hq : O.length = q) (ha : W.grownBy Wa none) (hx : RwS (fun b => W.heap.size ≤ b) Wa x.o.a x.o.l ∧ RwS (fun b => W.heap.size ≤ b) Wa x.n.a x.n.l)
    (hown : Wb.ownsRow B 93 3 (.slice (some ⟨g, 0, none⟩) (q + 1) cp) (q + 1) (O.flatMap Cw.c ++ x.c)) (hb : Wa.grownBy Wb (Value.slice ao q co).ownBlock) (hg : (Value.slice ao q co).ownBlock = some g ∨ g = Wa.heap.size) :
    Two B k1 p1 d1 k2 p2 d2 Wb v1 xs1 v2 xs2 ∧ OutAt B Wb (.slice (some ⟨g, 0, none⟩) (q + 1) cp) (O ++ [x]) (MM k1 p1 d1 v1 k2 p2 d2 v2) ∧ (∀ W0 : World, W0.grownBy W none → W0.heap.size ≤ B → W0.grownBy Wb none) ∧ Only (fun b => (Value.slice ao q co).ownBlock = some b) W Wb ∧ (∀ b, (Value.slice ao q co).ownBlock = some b → B ≤ b) := by
  subst hq
  have hlt : ∀ b, (Value.slice ao O.length co).ownBlock = some b → B ≤ b ∧ b < W.heap.size := fun b hb => World.ownsRow.lt hO.own b hb
  have hrow : ∀ {a : Option Addr} {l : List Vl}, RwS (fun b => W.heap.size ≤ b) Wa a l → RwS (fun b => ¬ MM k1 p1 d1 v1 k2 p2 d2 v2 b ∧ (Value.slice ao O.length co).ownBlock ≠ some b) Wa a l := fun hr => hr.mono (fun b _ hS => ⟨fun hm => by have := hT.mlt hm; omega, fun e => by have := (hlt b e).2; omega⟩)
  refine ⟨(hT.grown ha).told (hO.grown ha) hb, (hO.grown ha).push (fun b hm => Nat.lt_of_lt_of_le (hT.mlt hm) ha.size) ⟨hrow hx.1, hrow hx.2⟩ hown hb hg, fun W0 h0 hB => grown_thenT (h0.trans ha) hb (fun b e => by have := (hlt b e).1; omega), ((Only.refl _ _).grown ha (by simp)).grown hb (fun _ hj => .inl hj), fun b e => (hlt b e).1⟩
/-- Where Diff stands. -/
def DS (w : World) (k1 p1 d1 k2 p2 d2 : Nat) (T : PL) (s px py : Value) (n : Nat) (W : World) : Prop :=
  ∃ v1 xs1 v2 xs2 L1 L2 O x y, L1.length + L2.length = n ∧ px = .pointer x ∧ py = .pointer y ∧ Two w.heap.size k1 p1 d1 k2 p2 d2 W v1 xs1 v2 xs2 ∧ OutAt w.heap.size W s O (MM k1 p1 d1 v1 k2 p2 d2 v2) ∧ Cur w.heap.size W x L1 xs1 ∧ Cur w.heap.size W y L2 xs2 ∧ w.grownBy W none ∧ T = O.map Cw.p ++ diffL L1 L2 ∧ n + O.length ≤ 900000
theorem ds_less {w : World} {k1 p1 d1 k2 p2 d2 : Nat} {T : PL} {s px py : Value} {n mu : Nat} {W : World} (h : DS w k1 p1 d1 k2 p2 d2 T s px py n W) (hn : n < mu) : Classical.epsilon (Least (fun n => DS w k1 p1 d1 k2 p2 d2 T s px py n W)) < mu :=
  Nat.lt_of_le_of_lt ((least_eps (P := fun n => DS w k1 p1 d1 k2 p2 d2 T s px py n W) ⟨n, h⟩).2 n h) hn
theorem out_len {B : Nat} {W : World} {ao : Ptr} {q co : Nat} {O : List Cw} {M : Nat → Prop} (h : OutAt B W (.slice ao q co) O M) : O.length = q := by
  rcases h.own.2 with ⟨e, h0⟩ | ⟨g, cap, cur, e, _⟩
  · cases e; exact h0
  · cases e; rfl
theorem Cur.px {B : Nat} {W : World} {px : Ptr} {L : PL} {xs : List (Ptr × Tre)} (h : Cur B W px L xs) : px = none ∨ ∃ b, px = some ⟨b, 0, none⟩ := by
  cases L with
  | nil => exact .inl h
  | cons z L =>
    obtain ⟨b, _, _, _, _, e, _⟩ := h.1
    exact .inr ⟨b, e⟩
def TellsDiff (T : PL) (w : World) (e : Ending) (w' : World) : Prop := (∃ a cap O, e = .returned (.slice a (List.length O) cap) ∧ O.length ≤ cap ∧ CsAt w' a O ∧ O.map Cw.p = T) ∧ w.grownBy w' none
set_option maxRecDepth 100000 in
set_option maxHeartbeats 25600000 in
theorem diff_any (t u : Tre) (p q : Ptr) (w : World) (ht : TrAt Any w t p) (hu : TrAt Any w u q) (hst : Tr.Sorted rowsOrd t.toL) (hsu : Tr.Sorted rowsOrd u.toL) (hn : t.n ≤ 200000) (hun : u.n ≤ 200000) :
    Calls Try.prog 18 #[.pointer p, .pointer q] w (TellsDiff (diffL t.toL u.toL) w) := by
  have ht' : TrAt (fun b => b < w.heap.size) w t p := ht.mono (fun b hb _ => hb)
  have hu' : TrAt (fun b => b < w.heap.size) w u q := hu.mono (fun b hb _ => hb)
  have W1 := Lib.hid (walkB_any w.heap.size t p w (Nat.le_refl _) ht' hst (by omega))
  have W2 := Lib.hid (fun W (hW : w.grownBy W none) => walkB_any w.heap.size u q W hW.size (hu'.keep (.of hW)) hsu (by omega))
  have HL := Lib.hid (show t.toL.length ≤ 200000 ∧ u.toL.length ≤ 200000 from ⟨by rw [← Tr.n_toL]; exact hn, by rw [← Tr.n_toL]; exact hun⟩)
  clear ht hu ht' hu' hst hsu hn hun
  obtain ⟨TT, hTT⟩ : ∃ TT, TT = diffL t.toL u.toL := ⟨_, rfl⟩
  have HTT := Lib.hid hTT
  rw [← hTT]
  clear hTT
  obtain ⟨i0, hi0, hz0, hz1, hz2⟩ := info_partsT chg_info
  have HI := Lib.hid (And.intro hi0 (And.intro hz0 (And.intro hz1 hz2)))
  clear hi0 hz0 hz1 hz2
  go_enter Try.func18, Try.ntmps18
  go_wp2_with fail
  refine W1.out.mono ?_
  rintro e w1 ⟨⟨v1, xs1, rfl, hw1, hr1, hv1⟩, hg1⟩
  have W2' := Lib.hid (W2.out w1 hg1)
  have D1 := Lib.hid (And.intro hw1 (And.intro hr1 (And.intro hv1 hg1)))
  clear hw1 hr1 hv1 hg1 W1 W2
  go_wp2_with fail
  refine W2'.out.mono ?_
  rintro e w2 ⟨⟨v2, xs2, rfl, hw2, hr2, hv2⟩, hg2⟩
  have hTwo : Two w.heap.size w.heap.size (w.heap.size + 1) (w.heap.size + 1 + 1) w1.heap.size (w1.heap.size + 1) (w1.heap.size + 1 + 1) w2 v1 xs1 v2 xs2 := by
    obtain ⟨h1, _, hv1, hg1⟩ := D1.out
    obtain ⟨l1, l2, l3⟩ := h1.lt
    have o1 : ∀ g, v1.ownBlock = some g → g < w1.heap.size := fun g hg => (World.ownsRow.lt h1.own g hg).2
    refine ⟨h1.grown hg2, hw2, by omega, by omega, ⟨fun e => ?_, fun e => ?_, fun e => ?_⟩, ⟨fun e => ?_, fun e => ?_, fun e => ?_⟩, fun g e1 e2 => ?_⟩
    · have := o1 _ e; omega
    · have := o1 _ e; omega
    · have := o1 _ e; omega
    · have := hv2 _ e; omega
    · have := hv2 _ e; omega
    · have := hv2 _ e; omega
    · have := o1 _ e1; have := hv2 _ e2; omega
  have D2 := Lib.hid (And.intro hTwo (And.intro D1.out.2.1 (And.intro hr2 (D1.out.2.2.2.trans hg2))))
  have HO := Lib.hid (show OutAt w.heap.size w2 (.slice none 0 0) [] (MM w.heap.size (w.heap.size + 1) (w.heap.size + 1 + 1) v1 w1.heap.size (w1.heap.size + 1) (w1.heap.size + 1 + 1) v2) from ⟨World.ownsRow_nil _ _ _ _, by simp, by simp [Value.ownBlock]⟩)
  clear hw2 hr2 hv2 hg2 hTwo D1 W2'
  have N1 := Lib.hid (next_told D2.out.1 HO.out D2.out.2.1 (by have := HL.out.1; omega))
  go_wp2_with fail
  refine N1.out.mono ?_
  rintro e w3 ⟨px, v1', xs1', rfl, hT, hO, hC, ho⟩
  have N2 := Lib.hid (next_told hT.turn hO.turn D2.out.2.2.1 (by have := HL.out.2; omega))
  have E1 := Lib.hid (And.intro hT (And.intro hO (And.intro hC ho)))
  clear hT ho hO hC N1
  go_wp2_with fail
  refine N2.out.mono ?_
  rintro e w4 ⟨py, v2', xs2', rfl, hT2, hO2, hC2, ho2⟩
  have HX := Lib.hid (show DS w w.heap.size (w.heap.size + 1) (w.heap.size + 1 + 1) w1.heap.size (w1.heap.size + 1) (w1.heap.size + 1 + 1) TT (.slice none 0 0) (.pointer px) (.pointer py) (t.toL.length + u.toL.length) w4 from
    ⟨v1', xs1', v2', xs2', t.toL, u.toL, [], px, py, rfl, rfl, rfl, hT2.turn, hO2.turn, E1.out.2.2.1.keep ho2 E1.out.1.turn.only, hC2, only_grown (only_grown D2.out.2.2.2 E1.out.2.2.2 D2.out.1.only) ho2 E1.out.1.turn.only, by rw [HTT.out]; rfl, by have := HL.out; simp; omega⟩)
  have HX2 := Lib.hid (show ∃ n, DS w w.heap.size (w.heap.size + 1) (w.heap.size + 1 + 1) w1.heap.size (w1.heap.size + 1) (w1.heap.size + 1 + 1) TT (.slice none 0 0) (.pointer px) (.pointer py) n w4 from ⟨_, HX.out⟩)
  clear hT2 ho2 hO2 hC2 HX E1 N2 D2 HL HO HTT
  obtain ⟨K1, hK1⟩ : ∃ K1, K1 = w.heap.size + 1 := ⟨_, rfl⟩
  go_wp2_with fail
  go_loopw [5, 8, 9] (fun s5 s8 s9 wr => ∃ (ao : Ptr) (q co : Nat) (px py : Ptr), s5 = .slice ao q co ∧ s8 = .pointer px ∧ s9 = .pointer py ∧ Hid (∃ n, DS w w.heap.size (w.heap.size + 1) (w.heap.size + 1 + 1) w1.heap.size (w1.heap.size + 1) (w1.heap.size + 1 + 1) TT (.slice ao q co) (.pointer px) (.pointer py) n wr)) (fun s5 s8 s9 W => Classical.epsilon (Least (fun n => DS w w.heap.size (w.heap.size + 1) (w.heap.size + 1 + 1) w1.heap.size (w1.heap.size + 1) (w1.heap.size + 1 + 1) TT s5 s8 s9 n W)))
  case atStart => exact ⟨none, 0, 0, px, py, rfl, rfl, rfl, HX2⟩
  case round =>
    clear HX2 hK1 K1
    obtain ⟨ao, q, co, px, py, rfl, rfl, rfl, I⟩ := hrel
    obtain ⟨mu, hmu, hD⟩ : ∃ mu, mu = Classical.epsilon (Least (fun n => DS w w.heap.size (w.heap.size + 1) (w.heap.size + 1 + 1) w1.heap.size (w1.heap.size + 1) (w1.heap.size + 1 + 1) TT (.slice ao q co) (.pointer px) (.pointer py) n wr)) ∧ DS w w.heap.size (w.heap.size + 1) (w.heap.size + 1 + 1) w1.heap.size (w1.heap.size + 1) (w1.heap.size + 1 + 1) TT (.slice ao q co) (.pointer px) (.pointer py) mu wr :=
      ⟨_, rfl, (least_eps (P := fun n => DS w w.heap.size (w.heap.size + 1) (w.heap.size + 1 + 1) w1.heap.size (w1.heap.size + 1) (w1.heap.size + 1 + 1) TT (.slice ao q co) (.pointer px) (.pointer py) n wr) I.out).1⟩
    have HMu := Lib.hid hmu
    clear hmu I
    obtain ⟨v1, xs1, v2, xs2, L1, L2, O, x', y', hlen, e1, e2, hT, hO, hC1, hC2, hg, hTT, hb⟩ := hD
    cases e1
    cases e2
    have hq := out_len hO
    have hqb : q ≤ 900000 := by omega
    by_cases hend : L1 = [] ∧ L2 = []
    · obtain ⟨rfl, rfl⟩ := hend
      obtain rfl : px = none := hC1
      obtain rfl : py = none := hC2
      have D := Lib.hid (And.intro hO (And.intro hg hTT))
      have Hq := Lib.hid hq
      clear hT hO hg hTT hb hlen hq
      go_wp2_with fail
      go_ret
      obtain ⟨hO, hg, hTT⟩ := D.out
      have hq := Hq.out
      obtain ⟨a, cap, hv, hc, hcs⟩ := own_cs (B := w.heap.size) hO.own (by omega) (fun x hx => ⟨(hO.rows x hx).1.mono (S' := Any) (fun _ _ _ => trivial), (hO.rows x hx).2.mono (S' := Any) (fun _ _ _ => trivial)⟩)
      refine ⟨⟨a, cap, O, congrArg Ending.returned hv, hc, hcs, ?_⟩, hg⟩
      rw [hTT]
      simp [diffL]
    · obtain ⟨c, hA, hcase⟩ := aheadG hC1 hC2 hend
      have HA := Lib.hid hA
      have HD := Lib.hid (And.intro hT (And.intro hO (And.intro hC1 (And.intro hC2 (And.intro hg (And.intro hTT (And.intro hb (And.intro hlen hq))))))))
      clear hT hO hg hTT hb hlen hq hA hend
      rcases hcase with ⟨hc, k, r, rest, rfl, hdf⟩ | ⟨hc, k, r, rest, rfl, hdf⟩ | ⟨hc, k, r, rest, k', r', rest', rfl, rfl, hdf⟩
      · have Hdf := Lib.hid hdf
        clear hdf
        have hC1 := HD.out.2.2.1
        obtain ⟨⟨b, ka, kc, va, vc, rfl, _, _, _, c1, _, h1⟩, _⟩ := hC1
        have HCl := Lib.hid (fun W (hW : wr.grownBy W none) => clone_any (fun b => wr.heap.size ≤ b) va vc r W ((h1.keep (.of hW)).row) h1.1 (fun b hb => Nat.le_trans hW.size hb))
        have F := Lib.hid (fun (W : World) (hW : wr.grownBy W none) => hW.cell c1 (by simp))
        obtain ⟨rm, hrm⟩ : ∃ rm, rm = r.length := ⟨_, rfl⟩
        have Hrm := Lib.hid hrm
        rw [← hrm] at HCl F
        clear hrm c1 h1
        go_wp2_with fail
        refine HA.out.mono ?_
        rintro e w5 ⟨rfl, hg5⟩
        have G5 := Lib.hid hg5
        have c1 := F.out _ hg5
        clear hg5 HA
        go_wp2_with fail
        refine (HCl.out _ G5.out).mono ?_
        rintro e w6 ⟨⟨a', c', rfl, _, hrw⟩, hg6⟩
        have G6 := Lib.hid (G5.out.trans hg6)
        have HR := Lib.hid hrw
        have O6 := Lib.hid (show w6.ownsRow w.heap.size 93 3 (.slice ao q co) q (O.flatMap Cw.c) by have := (HD.out.2.1.grown G6.out).own; rw [HD.out.2.2.2.2.2.2.2.2] at this; exact this)
        have hB6 : w.heap.size ≤ w6.heap.size := (HD.out.2.2.2.2.1.trans G6.out).size
        have hcl := cc_len O
        clear hrw hg6 c1 HCl F
        go_wp2_with (at_builtin; refine wpList_append_lies _ rfl _ _ 46 rfl w.heap.size 93 i0 (.agg #[.string ⟨#[]⟩, .slice none 0 0, .slice none 0 0]) 3 64 Try.underlying46 HI.out.1 HI.out.2.1 HI.out.2.2.1 HI.out.2.2.2 rfl (by decide) (.slice ao q co) q (O.flatMap Cw.c) rfl (World.ownsRow.alloc O6.out _) ⟨w6.heap.size, 0, none⟩ 1 1 [.string ⟨#[]⟩, .slice a' rm c', .slice none 0 0] rfl rfl (World.news_of_block (heap_alloc_new w6 _)) (by intro u hu; simp only [List.mem_cons, List.not_mem_nil, or_false] at hu; rcases hu with rfl | rfl | rfl <;> rfl) (by decide) (by unfold maxLen; omega) (by omega) (by simp; omega) _ rfl ?_)
        intro g cp w7 hown7 hgrow7 hat7 _
        have hstep := told_step (x := ⟨⟨a', c', r⟩, ⟨none, 0, []⟩⟩) HD.out.1 HD.out.2.1 HD.out.2.2.2.2.2.2.2.2 (G6.out.trans (World.grownBy_alloc w6 (.cells #[.string ⟨#[]⟩, .slice a' rm c', .slice none 0 0] 93) none)) ⟨HR.out.keep (.of (World.grownBy_alloc _ _ none)), ⟨by simp, by simp, .inl rfl⟩⟩ (by have := hown7; rw [Hrm.out] at this; exact this) hgrow7 (hat7.imp id (fun e => e.trans (by simp)))
        have S7 := Lib.hid hstep
        clear hown7 hgrow7 hat7 hstep hcl O6
        have N1 := Lib.hid (next_told S7.out.1 S7.out.2.1 HD.out.2.2.1.2 (by have := HD.out.2.2.2.2.2.2.1; have := HD.out.2.2.2.2.2.2.2.1; simp at this; omega))
        go_wp2_with fail
        refine N1.out.mono ?_
        rintro e w8 ⟨px', v1', xs1', rfl, hT8, hO8, hC8, ho8⟩
        have HS := Lib.hid (show DS w w.heap.size (w.heap.size + 1) (w.heap.size + 1 + 1) w1.heap.size (w1.heap.size + 1) (w1.heap.size + 1 + 1) TT (.slice (some ⟨g, 0, none⟩) (q + 1) cp) (.pointer px') (.pointer py) (rest.length + L2.length) w8 from
          ⟨v1', xs1', v2, xs2, rest, L2, O ++ [⟨⟨a', c', r⟩, ⟨none, 0, []⟩⟩], px', py, rfl, rfl, rfl, hT8, hO8, hC8, (HD.out.2.2.2.1.keep S7.out.2.2.2.1 S7.out.2.2.2.2).keep ho8 S7.out.1.only, only_grown (S7.out.2.2.1 w HD.out.2.2.2.2.1 (Nat.le_refl _)) ho8 S7.out.1.only,
            by rw [HD.out.2.2.2.2.2.1, Hdf.out]; simp [Cw.p], by have h1 := HD.out.2.2.2.2.2.2.1; have h2 := HD.out.2.2.2.2.2.2.2.1; rw [List.length_cons] at h2; rw [List.length_append]; simp; omega⟩)
        have HLT := Lib.hid (show rest.length + L2.length < mu by have h2 := HD.out.2.2.2.2.2.2.2.1; rw [List.length_cons] at h2; omega)
        clear hT8 hO8 hC8 ho8 N1
        go_wp2_with fail
        go_roundw
        case rel => exact ⟨some ⟨g, 0, none⟩, q + 1, cp, px', py, rfl, rfl, rfl, Lib.hid ⟨_, HS.out⟩⟩
        case measure => rw [← HMu.out]; exact ds_less HS.out HLT.out
      · have Hdf := Lib.hid hdf
        have hpx := Cur.px hC1
        clear hdf
        have hC2 := HD.out.2.2.2.1
        obtain ⟨⟨b, ka, kc, va, vc, rfl, _, _, _, c1, _, h1⟩, _⟩ := hC2
        have HCl := Lib.hid (fun W (hW : wr.grownBy W none) => clone_any (fun b => wr.heap.size ≤ b) va vc r W ((h1.keep (.of hW)).row) h1.1 (fun b hb => Nat.le_trans hW.size hb))
        have F := Lib.hid (fun (W : World) (hW : wr.grownBy W none) => hW.cell c1 (by simp))
        obtain ⟨rm, hrm⟩ : ∃ rm, rm = r.length := ⟨_, rfl⟩
        have Hrm := Lib.hid hrm
        rw [← hrm] at HCl F
        clear hrm c1 h1
        have hcn : ¬ c < 0 := by omega
        go_upto_region 4 with fail
        go_cut [24] (fun s24 wx => s24 = .bool true ∧ wr = wx)
        case first =>
          rcases hpx with rfl | ⟨bx, rfl⟩
          all_goals
            go_wp2_with fail
            go_meet
            exact ⟨rfl, rfl⟩
        case rest =>
        obtain ⟨rfl, rfl⟩ := hcut
        clear hpx
        go_wp2_with fail
        refine HA.out.mono ?_
        rintro e w5 ⟨rfl, hg5⟩
        have G5 := Lib.hid hg5
        have c1 := F.out _ hg5
        clear hg5 HA
        go_wp2_with fail
        refine (HCl.out _ G5.out).mono ?_
        rintro e w6 ⟨⟨a', c', rfl, _, hrw⟩, hg6⟩
        have G6 := Lib.hid (G5.out.trans hg6)
        have HR := Lib.hid hrw
        have O6 := Lib.hid (show w6.ownsRow w.heap.size 93 3 (.slice ao q co) q (O.flatMap Cw.c) by have := (HD.out.2.1.grown G6.out).own; rw [HD.out.2.2.2.2.2.2.2.2] at this; exact this)
        have hB6 : w.heap.size ≤ w6.heap.size := (HD.out.2.2.2.2.1.trans G6.out).size
        have hcl := cc_len O
        clear hrw hg6 c1 HCl F
        go_wp2_with (at_builtin; refine wpList_append_lies _ rfl _ _ 46 rfl w.heap.size 93 i0 (.agg #[.string ⟨#[]⟩, .slice none 0 0, .slice none 0 0]) 3 64 Try.underlying46 HI.out.1 HI.out.2.1 HI.out.2.2.1 HI.out.2.2.2 rfl (by decide) (.slice ao q co) q (O.flatMap Cw.c) rfl (World.ownsRow.alloc O6.out _) ⟨w6.heap.size, 0, none⟩ 1 1 [.string ⟨#[]⟩, .slice none 0 0, .slice a' rm c'] rfl rfl (World.news_of_block (heap_alloc_new w6 _)) (by intro u hu; simp only [List.mem_cons, List.not_mem_nil, or_false] at hu; rcases hu with rfl | rfl | rfl <;> rfl) (by decide) (by unfold maxLen; omega) (by omega) (by simp; omega) _ rfl ?_)
        intro g cp w7 hown7 hgrow7 hat7 _
        have hstep := told_step (x := ⟨⟨none, 0, []⟩, ⟨a', c', r⟩⟩) HD.out.1 HD.out.2.1 HD.out.2.2.2.2.2.2.2.2 (G6.out.trans (World.grownBy_alloc w6 (.cells #[.string ⟨#[]⟩, .slice none 0 0, .slice a' rm c'] 93) none)) ⟨⟨by simp, by simp, .inl rfl⟩, HR.out.keep (.of (World.grownBy_alloc _ _ none))⟩ (by have := hown7; rw [Hrm.out] at this; exact this) hgrow7 (hat7.imp id (fun e => e.trans (by simp)))
        have S7 := Lib.hid hstep
        clear hown7 hgrow7 hat7 hstep hcl O6
        have N1 := Lib.hid (next_told S7.out.1.turn S7.out.2.1.turn HD.out.2.2.2.1.2 (by have := HD.out.2.2.2.2.2.2.1; have := HD.out.2.2.2.2.2.2.2.1; simp at this; omega))
        go_wp2_with fail
        refine N1.out.mono ?_
        rintro e w8 ⟨py', v2', xs2', rfl, hT8, hO8, hC8, ho8⟩
        have HS := Lib.hid (show DS w w.heap.size (w.heap.size + 1) (w.heap.size + 1 + 1) w1.heap.size (w1.heap.size + 1) (w1.heap.size + 1 + 1) TT (.slice (some ⟨g, 0, none⟩) (q + 1) cp) (.pointer px) (.pointer py') (L1.length + rest.length) w8 from
          ⟨v1, xs1, v2', xs2', L1, rest, O ++ [⟨⟨none, 0, []⟩, ⟨a', c', r⟩⟩], px, py', rfl, rfl, rfl, hT8.turn, hO8.turn, (HD.out.2.2.1.keep S7.out.2.2.2.1 S7.out.2.2.2.2).keep ho8 S7.out.1.turn.only, hC8, only_grown (S7.out.2.2.1 w HD.out.2.2.2.2.1 (Nat.le_refl _)) ho8 S7.out.1.turn.only,
            by rw [HD.out.2.2.2.2.2.1, Hdf.out]; simp [Cw.p], by have h1 := HD.out.2.2.2.2.2.2.1; have h2 := HD.out.2.2.2.2.2.2.2.1; rw [List.length_cons] at h2; rw [List.length_append]; simp; omega⟩)
        have HLT := Lib.hid (show L1.length + rest.length < mu by have h2 := HD.out.2.2.2.2.2.2.2.1; rw [List.length_cons] at h2; omega)
        clear hT8 hO8 hC8 ho8 N1
        go_wp2_with fail
        go_roundw
        case rel => exact ⟨some ⟨g, 0, none⟩, q + 1, cp, px, py', rfl, rfl, rfl, Lib.hid ⟨_, HS.out⟩⟩
        case measure => rw [← HMu.out]; exact ds_less HS.out HLT.out
      · have Hdf := Lib.hid hdf
        clear hdf hC1 hC2
        subst hc
        have hC1 := HD.out.2.2.1
        have hC2 := HD.out.2.2.2.1
        obtain ⟨⟨b, ka, kc, va, vc, rfl, hbl, _, _, c1, _, h1⟩, _⟩ := hC1
        obtain ⟨⟨b', ka', kc', va', vc', rfl, hbl', _, _, c1', _, h1'⟩, _⟩ := hC2
        have F := Lib.hid (fun (W : World) (hW : wr.grownBy W none) => And.intro (hW.cell c1 (by simp)) (hW.cell c1' (by simp)))
        have HV := Lib.hid (fun W (hW : wr.grownBy W none) => vsameG_any va va' vc vc' r r' W ((h1.keep (.of hW)).row) ((h1'.keep (.of hW)).row))
        have HCl := Lib.hid (fun W (hW : wr.grownBy W none) => clone_any (fun b => wr.heap.size ≤ b) va vc r W ((h1.keep (.of hW)).row) h1.1 (fun b hb => Nat.le_trans hW.size hb))
        have HCl' := Lib.hid (fun W (hW : wr.grownBy W none) => clone_any (fun b => wr.heap.size ≤ b) va' vc' r' W ((h1'.keep (.of hW)).row) h1'.1 (fun b hb => Nat.le_trans hW.size hb))
        obtain ⟨rm, hrm⟩ : ∃ rm, rm = r.length := ⟨_, rfl⟩
        have Hrm := Lib.hid hrm
        obtain ⟨rm', hrm'⟩ : ∃ rm', rm' = r'.length := ⟨_, rfl⟩
        have Hrm' := Lib.hid hrm'
        rw [← hrm] at F HV HCl
        rw [← hrm'] at F HV HCl'
        have HB := Lib.hid (And.intro hbl hbl')
        obtain ⟨bz, hbz⟩ : ∃ bz : Bool, bz = (rowsOrd r r' == 0) := ⟨_, rfl⟩
        have HBz := Lib.hid hbz
        rw [← hbz] at HV
        clear hbz
        clear hrm hrm' c1 c1' h1 h1' hbl hbl'
        have h00 : ¬ (0 : Int) < 0 := by decide
        go_wp2_with fail
        refine HA.out.mono ?_
        rintro e w5 ⟨rfl, hg5⟩
        have G5 := Lib.hid hg5
        obtain ⟨c1, c1'⟩ := F.out _ hg5
        clear hg5 HA
        go_upto_region 6 with fail
        go_cut [39] (fun s39 wx => s39 = .bool (!bz) ∧ Hid (w5.grownBy wx none))
        case first =>
          have C5 := Lib.hid (grown_drewT (grown_reflT w5 none))
          go_region_with (go_at_call 45; (with_reducible refine (HV.out _ (G5.out.trans C5.out)).mono ?_); rintro e w6 ⟨rfl, hg6⟩; have G6 := Lib.hid (C5.out.trans hg6); clear hg6)
          all_goals
            go_wp2_with fail
            go_meet
            exact ⟨rfl, G6⟩
        case rest =>
        obtain ⟨rfl, G6⟩ := hcut
        have G7 := Lib.hid (G5.out.trans G6.out)
        have T7 := Lib.hid (And.intro (HD.out.1.grown G7.out) (HD.out.2.1.grown G7.out))
        clear c1 c1' HV
        obtain ⟨c1, c1'⟩ := F.out _ G7.out
        go_upto_if 39 with (fail)
        go_cut [5] (fun s5 wx => ∃ (ao' : Ptr) (q' co' : Nat), s5 = .slice ao' q' co' ∧ Hid (∃ O', Two w.heap.size w.heap.size (w.heap.size + 1) (w.heap.size + 1 + 1) w1.heap.size (w1.heap.size + 1) (w1.heap.size + 1 + 1) wx v1 xs1 v2 xs2 ∧ OutAt w.heap.size wx (.slice ao' q' co') O' (MM w.heap.size (w.heap.size + 1) (w.heap.size + 1 + 1) v1 w1.heap.size (w1.heap.size + 1) (w1.heap.size + 1 + 1) v2) ∧ w.grownBy wx none ∧ O'.map Cw.p = O.map Cw.p ++ (if rowsOrd r r' = 0 then [] else [(r, r')]) ∧ O'.length ≤ O.length + 1))
        case first =>
          cases bz
          case true =>
            have HZ := Lib.hid (show rowsOrd r r' = 0 by simpa using HBz.out.symm)
            go_wp2_with fail
            go_meet
            exact ⟨ao, q, co, rfl, Lib.hid ⟨O, T7.out.1, T7.out.2, HD.out.2.2.2.2.1.trans G7.out, by rw [if_pos HZ.out]; simp, by omega⟩⟩
          case false =>
            have HZ := Lib.hid (show rowsOrd r r' ≠ 0 by simpa using HBz.out.symm)
            go_upto_region 7 with fail
            have C7 := Lib.hid (grown_drewT G7.out)
            have O7 := Lib.hid (show ∀ W, wr.grownBy W none → W.ownsRow w.heap.size 93 3 (.slice ao q co) q (O.flatMap Cw.c) from fun W hW => by have := (HD.out.2.1.grown hW).own; rw [HD.out.2.2.2.2.2.2.2.2] at this; exact this)
            have hcl := Lib.hid (cc_len O)
            have hBw := Lib.hid (HD.out.2.2.2.2.1.size)
            have HOl := Lib.hid (fun b e => (World.ownsRow.lt HD.out.2.1.own b e).1)
            go_region_held3 (fun W => W.cell? ⟨b, 1, none⟩ = some (.slice va rm vc) ∧ W.cell? ⟨b', 1, none⟩ = some (.slice va' rm' vc')) (first | exact y8 | exact F.out _ (G9.out.trans (World.grownBy_alloc _ _ none)) | exact F.out _ G9.out | exact F.out _ G8.out | exact F.out _ C7.out) (first
              | (go_at_call_of 42 (Value.slice va rm vc); (with_reducible refine (HCl.out wc.drew C7.out).mono ?_); rintro e w6 ⟨⟨a', c', rfl, _, hrw⟩, hg6⟩; have G8 := Lib.hid (C7.out.trans hg6); have HR := Lib.hid hrw; clear hrw hg6)
              | (go_at_call_of 42 (Value.slice va' rm' vc'); (with_reducible refine (HCl'.out w6 G8.out).mono ?_); rintro e w7 ⟨⟨a2, c2, rfl, _, hrw⟩, hg7⟩; have G9 := Lib.hid (G8.out.trans hg7); have HR' := Lib.hid (And.intro (HR.out.keep (.of hg7)) hrw); clear hrw hg7)
              | (refine step_append_lies (w7.alloc (.cells #[.string ⟨#[]⟩, .slice a' rm c', .slice a2 rm' c2] 93)) (by rfl) (.tmp 40) (.tmp 54) _ (by rfl) w.heap.size 93 i0 (.agg #[.string ⟨#[]⟩, .slice none 0 0, .slice none 0 0]) 3 64 Try.underlying46 HI.out.1 HI.out.2.1 HI.out.2.2.1 HI.out.2.2.2 rfl (by decide) (.slice ao q co) q (O.flatMap Cw.c) (by rfl) (World.ownsRow.alloc (O7.out _ G9.out) _) ⟨w7.heap.size, 0, none⟩ 1 1 [.string ⟨#[]⟩, .slice a' rm c', .slice a2 rm' c2] (by rfl) rfl (World.news_of_block (heap_alloc_new w7 _)) (by intro u hu; simp only [List.mem_cons, List.not_mem_nil, or_false] at hu; rcases hu with rfl | rfl | rfl <;> rfl) (by decide) (by unfold maxLen; omega) (by omega) (by have := G9.out.size; have := hBw.out; simp; omega) _ rfl ?_
                 intro g cp w8 hown8 hgrow8 hat8 _
                 have S8 := Lib.hid (told_step (x := ⟨⟨a', c', r⟩, ⟨a2, c2, r'⟩⟩) HD.out.1 HD.out.2.1 HD.out.2.2.2.2.2.2.2.2 (G9.out.trans (World.grownBy_alloc w7 (.cells #[.string ⟨#[]⟩, .slice a' rm c', .slice a2 rm' c2] 93) none)) ⟨HR'.out.1.keep (.of (World.grownBy_alloc _ _ none)), HR'.out.2.keep (.of (World.grownBy_alloc _ _ none))⟩ (by have := hown8; rw [Hrm.out, Hrm'.out] at this; exact this) hgrow8 hat8)
                 have y8 : w8.cell? ⟨b, 1, none⟩ = some (.slice va rm vc) ∧ w8.cell? ⟨b', 1, none⟩ = some (.slice va' rm' vc') := by
                   have y := F.out _ (G9.out.trans (World.grownBy_alloc w7 (.cells #[.string ⟨#[]⟩, .slice a' rm c', .slice a2 rm' c2] 93) none))
                   exact ⟨hgrow8.cell y.1 (fun e => by have := HOl.out b e.symm; have := HB.out.1; omega), hgrow8.cell y.2 (fun e => by have := HOl.out b' e.symm; have := HB.out.2; omega)⟩
                 clear hown8 hgrow8 hat8))
            all_goals
              go_wp2_with fail
              go_meet
              exact ⟨some ⟨g, 0, none⟩, q + 1, cp, rfl, Lib.hid ⟨O ++ [⟨⟨a', c', r⟩, ⟨a2, c2, r'⟩⟩], S8.out.1, S8.out.2.1, S8.out.2.2.1 w HD.out.2.2.2.2.1 (Nat.le_refl _), by rw [if_neg HZ.out, List.map_append]; rfl, by rw [List.length_append]; exact Nat.le_refl _⟩⟩
        case rest =>
        obtain ⟨ao', q', co', rfl, I'⟩ := hcut
        obtain ⟨O', hT', hO', hg', hp', hl'⟩ := I'.out
        have N1 := Lib.hid (next_told hT' hO' HD.out.2.2.1.2 (by have := HD.out.2.2.2.2.2.2.1; have := HD.out.2.2.2.2.2.2.2.1; simp at this; omega))
        have HP' := Lib.hid (And.intro hT' (And.intro hg' (And.intro hp' hl')))
        clear hT' hO' hg' hp' hl' I' c1 c1'
        go_wp2_with fail
        refine N1.out.mono ?_
        rintro e w8 ⟨px', v1', xs1', rfl, hT8, hO8, hC8, ho8⟩
        have N2 := Lib.hid (next_told hT8.turn hO8.turn HD.out.2.2.2.1.2 (by have := HD.out.2.2.2.2.2.2.1; have := HD.out.2.2.2.2.2.2.2.1; simp at this; omega))
        have E8 := Lib.hid (And.intro hT8 (And.intro hC8 ho8))
        clear hT8 hO8 hC8 ho8 N1
        go_wp2_with fail
        refine N2.out.mono ?_
        rintro e w9 ⟨py', v2', xs2', rfl, hT9, hO9, hC9, ho9⟩
        have HS := Lib.hid (show DS w w.heap.size (w.heap.size + 1) (w.heap.size + 1 + 1) w1.heap.size (w1.heap.size + 1) (w1.heap.size + 1 + 1) TT (.slice ao' q' co') (.pointer px') (.pointer py') (rest.length + rest'.length) w9 from
          ⟨v1', xs1', v2', xs2', rest, rest', O', px', py', rfl, rfl, rfl, hT9.turn, hO9.turn, E8.out.2.1.keep ho9 E8.out.1.turn.only, hC9, only_grown (only_grown HP'.out.2.1 E8.out.2.2 HP'.out.1.only) ho9 E8.out.1.turn.only,
            by rw [HD.out.2.2.2.2.2.1, Hdf.out, HP'.out.2.2.1]; split <;> simp, by have h1 := HD.out.2.2.2.2.2.2.1; have h2 := HD.out.2.2.2.2.2.2.2.1; have h3 := HP'.out.2.2.2; rw [List.length_cons, List.length_cons] at h2; omega⟩)
        have HLT := Lib.hid (show rest.length + rest'.length < mu by have h2 := HD.out.2.2.2.2.2.2.2.1; rw [List.length_cons, List.length_cons] at h2; omega)
        clear hT9 hO9 hC9 ho9 N2
        go_wp2_with fail
        go_roundw
        case rel => exact ⟨ao', q', co', px', py', rfl, rfl, rfl, Lib.hid ⟨_, HS.out⟩⟩
        case measure => rw [← HMu.out]; exact ds_less HS.out HLT.out
end Go.Proofs.Ytlmoefiajioeoaa
