/- The journal's Since. Where two sorted lists differ: by walking beside each other, and by asking for each key. The document's Get and From at pairs. -/
import Derived.Test.YtnfpomjcofhppaaGreatDoorZb20
import Derived.Deep.AppendLies
import Derived.Deep.DeepCutAuto
namespace Go.Proofs.YtnfpomjcofhppaaGreatDoor
open Go.RowKit

theorem sinceJ_over (R : Nat → Prop) (J : Nat) (w : World) (room en v : Int) (a : Ptr) (cap : Nat) (cs : List Cm) (h : JS R w J room en a cap cs) (hv : en < v) :
    Calls Tryz.prog 29 #[.pointer (some ⟨J, 0, none⟩), .int .i64 v] w fun e w' => e = .returned (.tuple #[.slice none 0 0, .int .i64 1]) ∧ w.grownBy w' none := by
  obtain ⟨c0, c1, c2, f0, f1, f2⟩ := h.jn.cells
  clear h c0 c2 f0 f1 f2
  go_enter Tryz.func29, Tryz.ntmps29
  go_wp2_with fail
  go_ret2
  exact ⟨rfl, grown_reflT w none⟩
set_option maxHeartbeats 1600000 in
theorem sinceJ_gone (R : Nat → Prop) (J : Nat) (w : World) (room en v : Int) (a : Ptr) (cap : Nat) (cs : List Cm) (h : JS R w J room en a cap cs) (he : 0 ≤ en) (he2 : en ≤ 1099511627776) (hn : cs.length ≤ 1000000) (hv : v < en - cs.length) :
    Calls Tryz.prog 29 #[.pointer (some ⟨J, 0, none⟩), .int .i64 v] w fun e w' => e = .returned (.tuple #[.slice none 0 0, .int .i64 25]) ∧ w.grownBy w' none := by
  obtain ⟨c0, c1, c2, f0, f1, f2⟩ := h.jn.cells
  have HH0 := Lib.hid (horizon_any J w room en a cs.length cap h.jn he he2 hn)
  have hv' : ¬ en < v := by omega
  generalize cs.length = n at *
  clear h c0 c2 f0 f1 f2 he he2 hn
  go_enter Tryz.func29, Tryz.ntmps29
  go_wp2_with fail
  refine HH0.out.mono ?_
  rintro e w1 ⟨rfl, k1, rfl⟩
  go_wp2_with fail
  go_ret2
  exact ⟨rfl, grown_drewNT (grown_reflT w none) _⟩
theorem cm_mem {l : List Cm} {i : Nat} (hi : i < l.length) : l.getD i default ∈ l := by simp [List.getD, hi]
/-- What Since has copied so far. -/
structure Out (B : Nat) (wr : World) (ao : Ptr) (q co : Nat) (out : List Cm) (src : List Cm) : Prop where
  len : out.length = q
  own : wr.ownsRow B 36 2 (.slice ao q co) q (out.flatMap Cm.c)
  at_ : ∀ x ∈ out, CgS (fun b => B ≤ b ∧ ¬ bk ao b) wr x.a x.l ∧ x.l.length ≤ x.cap ∧ capsL x.l
  same : out.map Cm.p = (src.take q).map Cm.p
theorem Out.cms {B : Nat} {wr : World} {ao : Ptr} {q co : Nat} {out src : List Cm} (h : Out B wr ao q co out src) (hq : q ≤ 1000000) : (q ≤ co ∧ ∀ x ∈ out, capsL x.l) ∧ CmS (fun b => B ≤ b) wr ao out := by
  have ho := h.own
  rcases ho.2 with ⟨hv, h0⟩ | ⟨g, cap, cur, hv, hb, hg, hc, _⟩
  · subst h0
    exact ⟨⟨Nat.zero_le _, fun x hx => (h.at_ x hx).2.2⟩, by rw [h.len]; omega, fun x hx => ⟨(h.at_ x hx).1.mono (fun b _ hb => hb.1), (h.at_ x hx).2.1⟩, .inl (List.eq_nil_of_length_eq_zero h.len)⟩
  · have hlt := (World.ownsRow.lt ho g (by rw [hv]; rfl)).2
    obtain ⟨rfl, rfl⟩ : ao = some ⟨g, 0, none⟩ ∧ co = cap := by have := Value.slice.inj hv; exact ⟨this.1, this.2.2⟩
    refine ⟨⟨hc, fun x hx => (h.at_ x hx).2.2⟩, by rw [h.len]; omega, fun x hx => ⟨(h.at_ x hx).1.mono (fun b _ hb => hb.1), (h.at_ x hx).2.1⟩, .inr ⟨g, 0, rfl, hb, hlt, fun i hi => ?_⟩⟩
    have c := World.ownsRow.cells ho (g := g) rfl
    have k := cm_at out i hi
    have c0 := c _ _ k.1
    have c1 := c _ _ k.2
    rw [add_atT] at c0 c1
    exact ⟨c0, c1⟩
theorem Out.push {B q co co2 g2 : Nat} {wr w2 w3 w4 : World} {ao : Ptr} {out src : List Cm} {x : Cm} (h : Out B wr ao q co out src) (hB : B ≤ wr.heap.size) (h2 : wr.grownBy w2 none) (hx : CgS (fun b => wr.heap.size ≤ b) w2 x.a x.l) (hxc : x.l.length ≤ x.cap ∧ capsL x.l) (h3 : w2.grownBy w3 none) (h4 : w3.grownBy w4 (Value.slice ao q co).ownBlock)
    (hown : w4.ownsRow B 36 2 (.slice (some ⟨g2, 0, none⟩) (q + 1) co2) (q + 1) (out.flatMap Cm.c ++ Cm.c x)) (hg : (Value.slice ao q co).ownBlock = some g2 ∨ g2 = w3.heap.size) (hq : q < src.length) (hp : Cm.p x = Cm.p (src.getD q default)) :
    Out B w4 (some ⟨g2, 0, none⟩) (q + 1) co2 (out ++ [x]) src := by
  have hob : ∀ b, (Value.slice ao q co).ownBlock = some b → bk ao b := fun b hb => by
    cases ao with
    | none => cases hb
    | some ad => simpa [bk, Value.ownBlock] using hb
  have hol : ∀ b, (Value.slice ao q co).ownBlock = some b → b < wr.heap.size := fun b hb => (World.ownsRow.lt h.own b hb).2
  have hsz3 : w2.heap.size ≤ w3.heap.size := h3.size
  have hsz2 : wr.heap.size ≤ w2.heap.size := h2.size
  have hnew : ∀ b, b < w2.heap.size → ¬ (Value.slice ao q co).ownBlock = some b → ¬ bk (some ⟨g2, 0, none⟩ : Ptr) b := fun b hb hn e => by
    rw [bk_some] at e
    subst e
    rcases hg with h1 | h1
    · exact hn h1
    · omega
  have hfin : ∀ y : Cm, CgS (fun b => B ≤ b ∧ ¬ (Value.slice ao q co).ownBlock = some b) w2 y.a y.l → CgS (fun b => B ≤ b ∧ ¬ bk (some ⟨g2, 0, none⟩ : Ptr) b) w4 y.a y.l := fun y hy => by
    have e1 : CgS (fun b => (B ≤ b ∧ ¬ bk (some ⟨g2, 0, none⟩ : Ptr) b) ∧ ¬ (Value.slice ao q co).ownBlock = some b) w2 y.a y.l := hy.mono (fun b hb hs => ⟨⟨hs.1, hnew b hb hs.2⟩, hs.2⟩)
    have e2 := e1.keep (.of h3)
    refine (e2.keep (w' := w4) ⟨h4.size, fun b hs hb => h4.block b hb (fun e => hs.2 e.symm)⟩).mono (fun b _ hs => hs.1)
  refine ⟨by simp [h.len], by simpa using hown, fun y hy => ?_, ?_⟩
  · rw [List.mem_append, List.mem_singleton] at hy
    rcases hy with hy | rfl
    · exact ⟨hfin y (((h.at_ y hy).1.keep (.of h2)).mono (fun b _ hs => ⟨hs.1, fun e => hs.2 (hob b e)⟩)), (h.at_ y hy).2⟩
    · exact ⟨hfin y (hx.mono (fun b _ hs => ⟨by omega, fun e => by have := hol b e; omega⟩)), hxc⟩
  · rw [List.take_succ_eq_append_getElem hq, List.map_append, List.map_append, h.same]
    simp only [List.map_cons, List.map_nil, hp]
    simp [List.getD, hq]
set_option maxHeartbeats 3200000 in
theorem sinceJ_any (R : Nat → Prop) (J : Nat) (w : World) (room en v : Int) (a : Ptr) (cap : Nat) (cs : List Cm) (m : Nat) (h : JS R w J room en a cap cs) (he : 0 ≤ en) (he2 : en ≤ 1099511627776) (hn : cs.length ≤ 1000000) (hv : en - cs.length ≤ v) (hm : (m : Int) = en - v) :
    Calls Tryz.prog 29 #[.pointer (some ⟨J, 0, none⟩), .int .i64 v] w fun e w' => (∃ ao co cs', e = .returned (.tuple #[.slice ao m co, .int .i64 0]) ∧ List.length cs' = m ∧ (m ≤ co ∧ ∀ x ∈ cs', capsL x.l) ∧ CmS (fun b => w.heap.size ≤ b) w' ao cs' ∧ cs'.map Cm.p = (cs.drop (cs.length - m)).map Cm.p) ∧ w.grownBy w' none := by
  have hj := h.jn
  obtain ⟨c0, c1, c2, f0, f1, f2⟩ := hj.cells
  have HJ := Lib.hid h
  obtain ⟨n, hnn⟩ : ∃ n, n = cs.length := ⟨_, rfl⟩
  have HH0 := Lib.hid (horizon_any J w room en a cs.length cap hj he he2 hn)
  have HH := Lib.hid (fun W (hW : w.grownBy W none) => horizon_any J W room en a cs.length cap (hj.keep hW (by simp)) he he2 hn)
  have hncap := h.win.le
  have hcmx := h.win.max
  rw [← hnn] at c2 HH0 HH hncap hv hn ⊢
  obtain ⟨d, hd⟩ : ∃ d : Nat, (d : Int) = v - (en - n) := ⟨(v - (en - n)).toNat, by omega⟩
  have e1 : IntKind.i64.wrap (v - (en - n)) = d := by rw [IntKind.wrap_i64]; omega
  have hv' : ¬ en < v := by omega
  have hv2 : ¬ v < en - n := by omega
  have hdn : d + m = n := by omega
  have hnm2 : n - m = d := by omega
  rw [hnm2]
  have HW : Hid (0 < m → ∃ g off, a = some ⟨g, off, none⟩ ∧ ∀ W, w.grownBy W none → ∀ q, q < m → W.cell? ⟨g, off + d * 2 + q * 2, none⟩ = some (.int .i64 ((cs.drop d).getD q default).v) ∧ W.cell? ⟨g, off + d * 2 + q * 2 + 1, none⟩ = some (.slice ((cs.drop d).getD q default).a ((cs.drop d).getD q default).l.length ((cs.drop d).getD q default).cap)) := Lib.hid fun h0 => by
    obtain ⟨g, off, ha, hc, _, _⟩ := h.win.mem.resolve_left (by omega)
    refine ⟨g, off, ha, fun W hW q hq => ?_⟩
    have e : (cs.drop d).getD q default = cs.getD (d + q) default := by simp [List.getD, List.getElem?_drop]
    rw [e]
    have k := cm_at cs (d + q) (by omega)
    have k0 := hc _ _ k.1
    have k1 := hc _ _ k.2
    rw [show off + (d + q) * 2 = off + d * 2 + q * 2 by omega] at k0
    rw [show off + ((d + q) * 2 + 1) = off + d * 2 + q * 2 + 1 by omega] at k1
    exact ⟨hW.cell k0 (by simp), hW.cell k1 (by simp)⟩
  have D := Lib.hid (And.intro hd (And.intro hn hnn))
  have hmn : m ≤ 1000000 := by omega
  clear h hj c0 f0 f1 f2 he he2 hn hv hd hm hnn hnm2
  go_enter Tryz.func29, Tryz.ntmps29
  go_wp2_with fail
  refine HH0.out.mono ?_
  rintro e w1 ⟨rfl, k1, rfl⟩
  go_wp2_with fail
  have hgw : w.grownBy (w.drewN k1) none := grown_drewNT (grown_reflT w none) _
  have c2' := hgw.cell c2 (by simp)
  have G1 := Lib.hid hgw
  generalize w.drewN k1 = w1 at *
  clear hgw c1 c2 HH0
  go_cut [29, 30, 31] (fun s29 s30 s31 wx => ∃ x cc, s29 = .slice x m cc ∧ s30 = .int .i64 m ∧ s31 = .int .i64 0 ∧ m ≤ cc ∧ Hid (w.grownBy wx none ∧ (0 < m → ∃ g off, a = some ⟨g, off, none⟩ ∧ x = some ⟨g, off + d * 2, none⟩)))
  case first =>
    have i0 : (0 : Int) ≤ d := by omega
    have i1 : (d : Int) ≤ n := by omega
    have i2 : (n : Int) ≤ cap := by omega
    have hnm : n - d = m := by omega
    have Q := Lib.hid (fun k => HH.out (w1.drewN k) (grown_drewNT G1.out k))
    have hmc : m ≤ cap - d := by omega
    by_cases hcd : cap = d
    · have hz : (cap = d) = True := by simp [hcd]
      have hm0 : ¬ 0 < m := by omega
      clear hcd
      cases a with
      | none =>
        go_quiet ((go_at_call 28; with_reducible exact Calls.quiet_of (Q.out _)))
        go_wp2_with fail
        go_meet
        exact ⟨_, cap - d, rfl, rfl, rfl, hmc, Lib.hid ⟨grown_drewNT G1.out _, fun h => absurd h hm0⟩⟩
      | some ad =>
        go_quiet ((go_at_call 28; with_reducible exact Calls.quiet_of (Q.out _)))
        go_wp2_with fail
        go_meet
        exact ⟨_, cap - d, rfl, rfl, rfl, hmc, Lib.hid ⟨grown_drewNT G1.out _, fun h => absurd h hm0⟩⟩
    · have hz : (cap = d) = False := by simp [hcd]
      obtain ⟨g, off, ha, _⟩ := HJ.out.win.mem.resolve_left (by omega)
      subst ha
      clear hcd
      go_quiet ((go_at_call 28; with_reducible exact Calls.quiet_of (Q.out _)))
      go_wp2_with fail
      go_meet
      exact ⟨some ⟨g, off + d * 2, none⟩, cap - d, rfl, rfl, rfl, hmc, Lib.hid ⟨grown_drewNT G1.out _, fun _ => ⟨g, off, rfl, rfl⟩⟩⟩
  case rest =>
  obtain ⟨x, cc, rfl, rfl, rfl, hmcc, I⟩ := hcut
  obtain ⟨i0, hi, hz0, hz1, hz2⟩ := info_partsT com_info
  have hsl : (cs.drop d).length = m := by rw [List.length_drop, ← D.out.2.2]; omega
  have HS := Lib.hid (fun q (hq : q < m) W (hW : w.grownBy W none) => copiedJ_any (fun b => ¬ JM R J a b) ((cs.drop d).getD q default).a ((cs.drop d).getD q default).cap ((cs.drop d).getD q default).l ((cs.drop d).getD q default).v W ((HJ.out.at_ _ (List.mem_of_mem_drop (cm_mem (l := cs.drop d) (by rw [hsl]; exact hq)))).keep (.of hW)))
  have hsl' := Lib.hid hsl
  clear hdn hncap hcmx hv' hv2 e1 c2' hsl
  go_wp2_with fail
  go_loopw [6, 31] (fun s i wr => ∃ (ao : Option Addr) (q co : Nat), s = .slice ao q co ∧ i = .int .i64 q ∧ q ≤ m ∧ Hid ((∃ out, Out w.heap.size wr ao q co out (cs.drop d)) ∧ w.grownBy wr none)) (fun _ i _ => m - (intOf i).toNat)
  case atStart => exact ⟨none, 0, 0, rfl, rfl, by omega, Lib.hid ⟨⟨[], ⟨rfl, World.ownsRow_nil _ _ _ _, by simp, by simp⟩⟩, I.out.1⟩⟩
  case round =>
    obtain ⟨ao, q, co, rfl, rfl, hq, K⟩ := hrel
    by_cases hlt : q < m
    · obtain ⟨⟨out, hout⟩, hgr⟩ := K.out
      obtain ⟨g, off, ha, hx⟩ := I.out.2 (by omega)
      obtain ⟨g', off', ha', hcell⟩ := HW.out (by omega)
      subst hx
      rw [ha] at ha'
      cases ha'
      obtain ⟨c0, c1⟩ := hcell wr hgr q hlt
      have HS1 := Lib.hid (HS.out q hlt)
      have Hxx := Lib.hid (show Cm.p ((cs.drop d).getD q default) = Cm.p ((cs.drop d).getD q default) from rfl)
      obtain ⟨y, hy⟩ : ∃ y, y = (cs.drop d).getD q default := ⟨_, rfl⟩
      rw [← hy] at c0 c1 HS1
      have Hy := Lib.hid hy
      obtain ⟨yv, ya, yc, yl⟩ := y
      simp only at c0 c1 HS1
      obtain ⟨yn, hyn⟩ : ∃ yn, yn = yl.length := ⟨_, rfl⟩
      rw [← hyn] at c1 HS1
      have O0 := Lib.hid hout
      have G0 := Lib.hid hgr
      have hB : w.heap.size ≤ wr.heap.size := hgr.size
      have j1 : (q : Int) < m := by omega
      have j2 : (0 : Int) ≤ (q : Int) := Int.natCast_nonneg _
      clear hout hgr K ha hcell hy Hxx hyn
      have GA := Lib.hid (World.grownBy_alloc wr (cCm yv ya yn yc) none)
      go_wp2_with fail
      refine (HS1.out _ (G0.out.trans GA.out)).mono ?_
      rintro e w2 ⟨⟨za, zc, zl, rfl, hzl, hzc, hzp, hzg⟩, hg2⟩
      have G2 := Lib.hid (GA.out.trans hg2)
      have hoq : w2.ownsRow w.heap.size 36 2 (.slice ao q co) q (out.flatMap Cm.c) := World.ownsRow.kept O0.out.own G2.out (by cases (Value.slice ao q co).ownBlock <;> simp)
      have O2 := Lib.hid hoq
      have hB2 : w.heap.size ≤ w2.heap.size := Nat.le_trans hB G2.out.size
      have Z2 := Lib.hid (And.intro hzl (And.intro hzc (And.intro hzp hzg)))
      clear hg2 c0 c1 hoq hzl hzc hzp hzg
      go_wp2_with (at_builtin; refine wpList_append_lies _ rfl _ _ 27 rfl w.heap.size 36 i0 (.agg #[.int .i64 0, .slice none 0 0]) 2 32 Tryz.underlying27 hi hz0 hz1 hz2 rfl (by decide) (.slice ao q co) q (out.flatMap Cm.c) rfl (World.ownsRow.alloc O2.out _) ⟨w2.heap.size, 0, none⟩ 1 1 [.int .i64 yv, .slice za yn zc] rfl rfl (World.news_of_block (heap_alloc_new w2 _)) (by intro u hu; simp only [List.mem_cons, List.not_mem_nil, or_false] at hu; rcases hu with rfl | rfl <;> rfl) (by decide) (by unfold maxLen; omega) (by omega) (by simp; omega) _ rfl ?_)
      intro g2 cp w4 hown4 hgrow4 hgb hg4
      have E4 := Lib.hid (And.intro hown4 (And.intro hgrow4 hgb))
      clear hown4 hgrow4 hgb hg4
      go_wp2_with fail
      go_roundw
      case rel =>
        obtain ⟨hown4, hgrow4, hgb⟩ := E4.out
        obtain ⟨hzl, hzc, hzp, hzg⟩ := Z2.out
        have hcc : Cm.c ⟨yv, za, zc, zl⟩ = [.int .i64 yv, .slice za yn zc] := by simp only [Cm.c]; rw [hzl]
        have hpush := O0.out.push (x := ⟨yv, za, zc, zl⟩) hB G2.out (hzg.mono (fun b _ h => Nat.le_trans GA.out.size h)) ⟨by rw [hzl]; exact hzc.1, hzc.2⟩ (World.grownBy_alloc w2 _ none) hgrow4 (by rw [hcc]; exact hown4) (hgb.imp id (fun e => e.trans (by simp))) (by rw [hsl'.out]; exact hlt) (by rw [← Hy.out]; simp only [Cm.p]; rw [hzp])
        refine ⟨some ⟨g2, 0, none⟩, q + 1, cp, rfl, by go_num, by omega, Lib.hid ⟨⟨_, hpush⟩, grown_thenT ((G0.out.trans G2.out).trans (World.grownBy_alloc w2 (cCm yv za yn zc) none)) hgrow4 (fun b hb => (World.ownsRow.lt O0.out.own b hb).1)⟩⟩
      case measure => simp [intOf]; omega
    · obtain rfl : q = m := by omega
      go_wp2_with fail
      go_ret2
      obtain ⟨⟨out, hout⟩, hgr⟩ := K.out
      obtain ⟨h1, h2⟩ := hout.cms hmn
      have hs := hout.same
      rw [List.take_of_length_le (by rw [hsl'.out]; exact Nat.le_refl _)] at hs
      exact ⟨⟨ao, co, out, rfl, hout.len, h1, h2, hs⟩, hgr⟩
end Go.Proofs.YtnfpomjcofhppaaGreatDoor
namespace Go.Proofs.YtnfpomjcofhppaaGreatDoor
open Go.RowKit

abbrev PL := List (List Vl × List Vl)
/-- Two lists beside each other. -/
def diffL : PL → PL → PL
  | [], [] => []
  | (_, r) :: a, [] => (r, []) :: diffL a []
  | [], (_, r) :: b => ([], r) :: diffL [] b
  | (k, r) :: a, (k', r') :: b => if rowsOrd k k' < 0 then (r, []) :: diffL a ((k', r') :: b) else if 0 < rowsOrd k k' then ([], r') :: diffL ((k, r) :: a) b else if rowsOrd r r' = 0 then diffL a b else (r, r') :: diffL a b
termination_by a b => a.length + b.length
/-- Their keys. -/
def mergeK : PL → PL → List (List Vl)
  | [], [] => []
  | (k, _) :: a, [] => k :: mergeK a []
  | [], (k, _) :: b => k :: mergeK [] b
  | (k, r) :: a, (k', r') :: b => if rowsOrd k k' < 0 then k :: mergeK a ((k', r') :: b) else if 0 < rowsOrd k k' then k' :: mergeK ((k, r) :: a) b else k :: mergeK a b
termination_by a b => a.length + b.length
/-- What is told of one key. -/
def askL (a b : PL) (k : List Vl) : PL :=
  match lookL k a, lookL k b with
  | some x, none => [(x, [])]
  | none, some y => [([], y)]
  | some x, some y => if rowsOrd x y = 0 then [] else [(x, y)]
  | none, none => []
theorem look_cons_ne {k k' : List Vl} {r : List Vl} {l : PL} (h : rowsOrd k' k ≠ 0) : lookL k ((k', r) :: l) = lookL k l := by
  unfold lookL
  rw [List.find?_cons_of_neg (by simpa using h)]
theorem look_cons_eq {k k' : List Vl} {r : List Vl} {l : PL} (h : rowsOrd k' k = 0) : lookL k ((k', r) :: l) = some r := by
  unfold lookL
  rw [List.find?_cons_of_pos (by simpa using h)]
  rfl
theorem look_above {k : List Vl} {l : PL} (h : ∀ x ∈ l, rowsOrd k x.1 < 0) : lookL k l = none := by
  unfold lookL
  rw [List.find?_eq_none.2 (fun x hx e => ?_)]
  · rfl
  · have e' : rowsOrd x.1 k = 0 := by simpa using e
    have := h x hx
    rw [(ro_zero _ _).1 e', (ro_zero k k).2 rfl] at this
    omega
theorem mergeK_mem : ∀ (a b : PL) (k : List Vl), k ∈ mergeK a b → (∃ x ∈ a, x.1 = k) ∨ (∃ x ∈ b, x.1 = k)
  | [], [], k, h => by simp [mergeK] at h
  | (k1, r) :: a, [], k, h => by
    rw [mergeK, List.mem_cons] at h
    rcases h with rfl | h
    · exact .inl ⟨_, List.mem_cons_self, rfl⟩
    · rcases mergeK_mem a [] k h with ⟨x, hx, e⟩ | ⟨x, hx, e⟩
      · exact .inl ⟨x, by simp [hx], e⟩
      · simp at hx
  | [], (k1, r) :: b, k, h => by
    rw [mergeK, List.mem_cons] at h
    rcases h with rfl | h
    · exact .inr ⟨_, List.mem_cons_self, rfl⟩
    · rcases mergeK_mem [] b k h with ⟨x, hx, e⟩ | ⟨x, hx, e⟩
      · simp at hx
      · exact .inr ⟨x, by simp [hx], e⟩
  | (k1, r) :: a, (k2, r2) :: b, k, h => by
    rw [mergeK] at h
    split at h
    · rw [List.mem_cons] at h
      rcases h with rfl | h
      · exact .inl ⟨_, List.mem_cons_self, rfl⟩
      · rcases mergeK_mem a ((k2, r2) :: b) k h with ⟨x, hx, e⟩ | h
        · exact .inl ⟨x, by simp [hx], e⟩
        · exact .inr h
    · split at h
      · rw [List.mem_cons] at h
        rcases h with rfl | h
        · exact .inr ⟨_, List.mem_cons_self, rfl⟩
        · rcases mergeK_mem ((k1, r) :: a) b k h with h | ⟨x, hx, e⟩
          · exact .inl h
          · exact .inr ⟨x, by simp [hx], e⟩
      · rw [List.mem_cons] at h
        rcases h with rfl | h
        · exact .inl ⟨_, List.mem_cons_self, rfl⟩
        · rcases mergeK_mem a b k h with ⟨x, hx, e⟩ | ⟨x, hx, e⟩
          · exact .inl ⟨x, by simp [hx], e⟩
          · exact .inr ⟨x, by simp [hx], e⟩
termination_by a b => a.length + b.length
theorem mem_mergeK : ∀ (a b : PL) (k : List Vl), (∃ x ∈ a, x.1 = k) ∨ (∃ x ∈ b, x.1 = k) → k ∈ mergeK a b
  | [], [], k, h => by simp at h
  | (k1, r) :: a, [], k, h => by
    rw [mergeK, List.mem_cons]
    rcases h with ⟨x, hx, e⟩ | ⟨x, hx, _⟩
    · rcases List.mem_cons.1 hx with rfl | hx
      · exact .inl e.symm
      · exact .inr (mem_mergeK a [] k (.inl ⟨x, hx, e⟩))
    · simp at hx
  | [], (k1, r) :: b, k, h => by
    rw [mergeK, List.mem_cons]
    rcases h with ⟨x, hx, _⟩ | ⟨x, hx, e⟩
    · simp at hx
    · rcases List.mem_cons.1 hx with rfl | hx
      · exact .inl e.symm
      · exact .inr (mem_mergeK [] b k (.inr ⟨x, hx, e⟩))
  | (k1, r) :: a, (k2, r2) :: b, k, h => by
    rw [mergeK]
    by_cases h1 : rowsOrd k1 k2 < 0
    · rw [if_pos h1, List.mem_cons]
      rcases h with ⟨x, hx, e⟩ | h
      · rcases List.mem_cons.1 hx with rfl | hx
        · exact .inl e.symm
        · exact .inr (mem_mergeK a _ k (.inl ⟨x, hx, e⟩))
      · exact .inr (mem_mergeK a _ k (.inr h))
    · rw [if_neg h1]
      by_cases h2 : 0 < rowsOrd k1 k2
      · rw [if_pos h2, List.mem_cons]
        rcases h with h | ⟨x, hx, e⟩
        · exact .inr (mem_mergeK _ b k (.inl h))
        · rcases List.mem_cons.1 hx with rfl | hx
          · exact .inl e.symm
          · exact .inr (mem_mergeK _ b k (.inr ⟨x, hx, e⟩))
      · rw [if_neg h2, List.mem_cons]
        have e12 : k1 = k2 := (ro_zero _ _).1 (by omega)
        rcases h with ⟨x, hx, e⟩ | ⟨x, hx, e⟩
        · rcases List.mem_cons.1 hx with rfl | hx
          · exact .inl e.symm
          · exact .inr (mem_mergeK a b k (.inl ⟨x, hx, e⟩))
        · rcases List.mem_cons.1 hx with rfl | hx
          · exact .inl (by rw [← e]; exact e12.symm)
          · exact .inr (mem_mergeK a b k (.inr ⟨x, hx, e⟩))
termination_by a b => a.length + b.length
/-- Keys that rise. -/
def RiseK (l : List (List Vl)) : Prop := l.Pairwise (fun x y => rowsOrd x y < 0)
theorem ro_lt_of {a b c : List Vl} (h : rowsOrd a b < 0) (e : b = c) : rowsOrd a c < 0 := e ▸ h
theorem ro_gt {a b : List Vl} (h : 0 < rowsOrd a b) : rowsOrd b a < 0 := by have := ro_turn a b; omega
theorem mergeK_rise : ∀ (a b : PL), Tr.Sorted rowsOrd a → Tr.Sorted rowsOrd b → RiseK (mergeK a b)
  | [], [], _, _ => by simp [mergeK, RiseK]
  | (k1, r) :: a, [], ha, hb => by
    have h' := List.pairwise_cons.1 ha
    rw [mergeK]
    refine List.pairwise_cons.2 ⟨fun k hk => ?_, mergeK_rise a [] h'.2 hb⟩
    rcases mergeK_mem a [] k hk with ⟨x, hx, rfl⟩ | ⟨x, hx, _⟩
    · exact h'.1 x hx
    · simp at hx
  | [], (k1, r) :: b, ha, hb => by
    have h' := List.pairwise_cons.1 hb
    rw [mergeK]
    refine List.pairwise_cons.2 ⟨fun k hk => ?_, mergeK_rise [] b ha h'.2⟩
    rcases mergeK_mem [] b k hk with ⟨x, hx, _⟩ | ⟨x, hx, rfl⟩
    · simp at hx
    · exact h'.1 x hx
  | (k1, r) :: a, (k2, r2) :: b, ha, hb => by
    have h1 := List.pairwise_cons.1 ha
    have h2 := List.pairwise_cons.1 hb
    rw [mergeK]
    split
    · rename_i hlt
      refine List.pairwise_cons.2 ⟨fun k hk => ?_, mergeK_rise a _ h1.2 hb⟩
      rcases mergeK_mem a _ k hk with ⟨x, hx, rfl⟩ | ⟨x, hx, rfl⟩
      · exact h1.1 x hx
      · rcases List.mem_cons.1 hx with rfl | hx
        · exact hlt
        · exact ro_trans _ _ _ hlt (h2.1 x hx)
    · split
      · rename_i _ hgt
        have hlt := ro_gt hgt
        refine List.pairwise_cons.2 ⟨fun k hk => ?_, mergeK_rise _ b ha h2.2⟩
        rcases mergeK_mem _ b k hk with ⟨x, hx, rfl⟩ | ⟨x, hx, rfl⟩
        · rcases List.mem_cons.1 hx with rfl | hx
          · exact hlt
          · exact ro_trans _ _ _ hlt (h1.1 x hx)
        · exact h2.1 x hx
      · rename_i n1 n2
        have e12 : k1 = k2 := (ro_zero _ _).1 (by omega)
        refine List.pairwise_cons.2 ⟨fun k hk => ?_, mergeK_rise a b h1.2 h2.2⟩
        rcases mergeK_mem a b k hk with ⟨x, hx, rfl⟩ | ⟨x, hx, rfl⟩
        · exact h1.1 x hx
        · rw [e12]; exact h2.1 x hx
termination_by a b => a.length + b.length
/-- Rising keys that are the same as a set are the same. -/
theorem rise_same : ∀ (l m : List (List Vl)), RiseK l → RiseK m → (∀ k, k ∈ l ↔ k ∈ m) → l = m
  | [], [], _, _, _ => rfl
  | [], y :: m, _, _, h => by have := (h y).2 (by simp); simp at this
  | x :: l, [], _, _, h => by have := (h x).1 (by simp); simp at this
  | x :: l, y :: m, hl, hm, h => by
    have h1 := List.pairwise_cons.1 hl
    have h2 := List.pairwise_cons.1 hm
    have irr : ∀ z : List Vl, ¬ rowsOrd z z < 0 := fun z => by rw [(ro_zero z z).2 rfl]; omega
    have exy : x = y := by
      rcases List.mem_cons.1 ((h x).1 (by simp)) with e | hx
      · exact e
      · rcases List.mem_cons.1 ((h y).2 (by simp)) with e | hy
        · exact e.symm
        · exact absurd (ro_trans _ _ _ (h2.1 x hx) (h1.1 y hy)) (irr y)
    subst exy
    rw [rise_same l m h1.2 h2.2 (fun k => ?_)]
    constructor
    · intro hk
      rcases List.mem_cons.1 ((h k).1 (by simp [hk])) with e | hk'
      · subst e; exact absurd (h1.1 _ hk) (irr _)
      · exact hk'
    · intro hk
      rcases List.mem_cons.1 ((h k).2 (by simp [hk])) with e | hk'
      · subst e; exact absurd (h2.1 _ hk) (irr _)
      · exact hk'
theorem flatMap_same {f g : List Vl → PL} : ∀ {l : List (List Vl)}, (∀ k ∈ l, f k = g k) → l.flatMap f = l.flatMap g
  | [], _ => rfl
  | x :: l, h => by rw [List.flatMap_cons, List.flatMap_cons, h x (by simp), flatMap_same (fun k hk => h k (by simp [hk]))]
theorem ask_step1 {k1 r : List Vl} {a b : PL} {k : List Vl} (h : rowsOrd k1 k < 0) : askL ((k1, r) :: a) b k = askL a b k := by
  unfold askL; rw [look_cons_ne (by omega)]
theorem ask_step2 {k1 r : List Vl} {a b : PL} {k : List Vl} (h : rowsOrd k1 k < 0) : askL a ((k1, r) :: b) k = askL a b k := by
  unfold askL; rw [look_cons_ne (by omega)]
theorem diffL_asks : ∀ (a b : PL), Tr.Sorted rowsOrd a → Tr.Sorted rowsOrd b → diffL a b = (mergeK a b).flatMap (askL a b)
  | [], [], _, _ => by simp [diffL, mergeK]
  | (k1, r) :: a, [], ha, hb => by
    have h' := List.pairwise_cons.1 ha
    have hm := List.pairwise_cons.1 (by have := mergeK_rise ((k1, r) :: a) [] ha hb; rw [mergeK] at this; exact this)
    have e : askL ((k1, r) :: a) [] k1 = [(r, [])] := by unfold askL; rw [look_cons_eq ((ro_zero _ _).2 rfl)]; rfl
    rw [diffL, mergeK, List.flatMap_cons, diffL_asks a [] h'.2 hb, e, flatMap_same (fun k hk => ask_step1 (hm.1 k hk))]
    rfl
  | [], (k1, r) :: b, ha, hb => by
    have h' := List.pairwise_cons.1 hb
    have hm := List.pairwise_cons.1 (by have := mergeK_rise [] ((k1, r) :: b) ha hb; rw [mergeK] at this; exact this)
    have e : askL [] ((k1, r) :: b) k1 = [([], r)] := by unfold askL; rw [look_cons_eq ((ro_zero _ _).2 rfl)]; rfl
    rw [diffL, mergeK, List.flatMap_cons, diffL_asks [] b ha h'.2, e, flatMap_same (fun k hk => ask_step2 (hm.1 k hk))]
    rfl
  | (k1, r) :: a, (k2, r2) :: b, ha, hb => by
    have h1 := List.pairwise_cons.1 ha
    have h2 := List.pairwise_cons.1 hb
    have hR := mergeK_rise ((k1, r) :: a) ((k2, r2) :: b) ha hb
    rw [mergeK] at hR
    rw [diffL, mergeK]
    by_cases c1 : rowsOrd k1 k2 < 0
    · rw [if_pos c1] at hR
      have hm := List.pairwise_cons.1 hR
      have hn : lookL k1 ((k2, r2) :: b) = none := look_above (fun x hx => by
        rcases List.mem_cons.1 hx with rfl | hx
        · exact c1
        · exact ro_trans _ _ _ c1 (h2.1 x hx))
      have e : askL ((k1, r) :: a) ((k2, r2) :: b) k1 = [(r, [])] := by unfold askL; rw [look_cons_eq ((ro_zero _ _).2 rfl), hn]
      rw [if_pos c1, if_pos c1, List.flatMap_cons, diffL_asks a _ h1.2 hb, e, flatMap_same (fun k hk => ask_step1 (hm.1 k hk))]
      rfl
    · rw [if_neg c1] at hR
      rw [if_neg c1, if_neg c1]
      by_cases c2 : 0 < rowsOrd k1 k2
      · rw [if_pos c2] at hR
        have hm := List.pairwise_cons.1 hR
        have c2' := ro_gt c2
        have hn : lookL k2 ((k1, r) :: a) = none := look_above (fun x hx => by
          rcases List.mem_cons.1 hx with rfl | hx
          · exact c2'
          · exact ro_trans _ _ _ c2' (h1.1 x hx))
        have e : askL ((k1, r) :: a) ((k2, r2) :: b) k2 = [([], r2)] := by unfold askL; rw [hn, look_cons_eq ((ro_zero _ _).2 rfl)]
        rw [if_pos c2, if_pos c2, List.flatMap_cons, diffL_asks _ b ha h2.2, e, flatMap_same (fun k hk => ask_step2 (hm.1 k hk))]
        rfl
      · rw [if_neg c2] at hR
        have hm := List.pairwise_cons.1 hR
        have e12 : k1 = k2 := (ro_zero _ _).1 (by omega)
        have e : askL ((k1, r) :: a) ((k2, r2) :: b) k1 = if rowsOrd r r2 = 0 then [] else [(r, r2)] := by unfold askL; rw [look_cons_eq ((ro_zero _ _).2 rfl), look_cons_eq ((ro_zero _ _).2 e12.symm)]
        rw [if_neg c2, if_neg c2, List.flatMap_cons, diffL_asks a b h1.2 h2.2, e, flatMap_same (l := mergeK a b) (f := askL ((k1, r) :: a) ((k2, r2) :: b)) (g := askL a b) (fun k hk => by rw [ask_step1 (hm.1 k hk), ask_step2 (by rw [← e12]; exact hm.1 k hk)])]
        split
        · rfl
        · rfl
termination_by a b => a.length + b.length
theorem diffL_len : ∀ (a b : PL), (diffL a b).length ≤ a.length + b.length
  | [], [] => by simp [diffL]
  | (_, r) :: a, [] => by rw [diffL]; have := diffL_len a []; simp at *; omega
  | [], (_, r) :: b => by rw [diffL]; have := diffL_len [] b; simp at *; omega
  | (k, r) :: a, (k', r') :: b => by
    rw [diffL]
    split
    · have := diffL_len a ((k', r') :: b); simp at *; omega
    · split
      · have := diffL_len ((k, r) :: a) b; simp at *; omega
      · split
        · have := diffL_len a b; simp at *; omega
        · have := diffL_len a b; simp at *; omega
termination_by a b => a.length + b.length
end Go.Proofs.YtnfpomjcofhppaaGreatDoor
namespace Go.Proofs.YtnfpomjcofhppaaGreatDoor
open Go.RowKit

set_option maxRecDepth 100000 in
set_option maxHeartbeats 3200000 in
theorem refGet_any (S : Nat → Prop) (a ka : Ptr) (cap kc : Nat) (l : List Pw) (key : List Vl) (w : World) (h : PsS S w a l) (hcap : l.length ≤ cap) (hk : RowAt w ka key) :
    Calls Tryz.prog 34 #[.slice a l.length cap, .slice ka key.length kc] w fun e w' => ((∃ x ∈ l, e = .returned (.tuple #[x.r.v, .bool true]) ∧ lookL key (l.map Pw.p) = some x.r.l) ∨ (e = .returned (.tuple #[.slice none 0 0, .bool false]) ∧ lookL key (l.map Pw.p) = none)) ∧ w.grownBy w' none := by
  have H := Lib.hid h
  have HS := Lib.hid (fun i (hi : i < l.length) W (hW : w.grownBy W none) => (refSame_any (l.getD i default).k.a ka (l.getD i default).k.cap kc (l.getD i default).k.l key W ((h.mem hi).1.keep (.of hW)).row (hk.keep (below_grownT hW))).mono fun e w' h => And.intro h.1 (grown_belowT h.2 none))
  have hl := h.1
  obtain ⟨n, hn⟩ : ∃ n, n = l.length := ⟨_, rfl⟩
  have Hn := Lib.hid hn
  rw [← hn] at hcap HS hl ⊢
  generalize key.length = m at *
  clear h hk hn
  go_enter Tryz.func34, Tryz.ntmps34
  go_wp2_with fail
  go_loopw [9] (fun i wr => ∃ (j : Nat), i = .int .i64 j ∧ j ≤ n ∧ Hid ((∀ x ∈ l.take j, rowsOrd x.k.l key ≠ 0) ∧ w.grownBy wr none)) (fun i _ => n - (intOf i).toNat)
  case atStart => exact ⟨0, rfl, by omega, Lib.hid ⟨by simp, grown_reflT _ _⟩⟩
  case round =>
    obtain ⟨j, rfl, hj, I⟩ := hrel
    by_cases hlt : j < n
    · have hjl : j < l.length := by rw [← Hn.out]; exact hlt
      obtain ⟨b, off, rfl, hb, c0, c1⟩ := (H.out.keep (.of I.out.2)).at (i := j) hjl
      have HS1 := Lib.hid (HS.out j hlt wr I.out.2)
      have HJ := Lib.hid (And.intro hjl I.out)
      obtain ⟨x, hx⟩ : ∃ x, x = l.getD j default := ⟨_, rfl⟩
      have HX := Lib.hid hx
      rw [← hx] at c0 c1 HS1
      clear hx I hjl
      obtain ⟨⟨xka, xkc, xkl⟩, ⟨xra, xrc, xrl⟩⟩ := x
      simp only [Rw.v] at c0 c1 HS1
      have i1 : (j : Int) ≤ cap := by omega
      obtain ⟨y, hy⟩ : ∃ y, y = xkl.length := ⟨_, rfl⟩
      obtain ⟨z, hz⟩ : ∃ z, z = xrl.length := ⟨_, rfl⟩
      have Hz := Lib.hid hz
      rw [← hy] at c0 HS1
      rw [← hz] at c1
      clear hy hz
      have F := Lib.hid (fun (W : World) (hW : wr.grownBy W none) => hW.cell c1 (by simp))
      by_cases he : rowsOrd xkl key = 0
      · have hb1 : (rowsOrd xkl key == 0) = true := by simp [he]
        rw [hb1] at HS1
        have He := Lib.hid he
        clear hb1 he
        go_wp2_with fail
        refine HS1.out.mono ?_
        rintro e w2 ⟨rfl, hg2⟩
        have d1 := F.out _ hg2
        have G2 := Lib.hid hg2
        clear hg2 c0 c1
        go_wp2_with fail
        go_ret2
        refine ⟨.inl ⟨⟨⟨xka, xkc, xkl⟩, ⟨xra, xrc, xrl⟩⟩, ?_, ?_, ?_⟩, HJ.out.2.2.trans G2.out⟩
        · have hjl := HJ.out.1
          rw [HX.out]; simp [List.getD, hjl]
        · rw [Hz.out]; rfl
        · have := look_hit HJ.out.1 HJ.out.2.1 (by rw [← HX.out]; exact He.out)
          rw [← HX.out] at this
          exact this
      · have hb1 : (rowsOrd xkl key == 0) = false := by simp [he]
        rw [hb1] at HS1
        have He := Lib.hid he
        clear hb1 he
        go_wp2_with fail
        refine HS1.out.mono ?_
        rintro e w2 ⟨rfl, hg2⟩
        have G2 := Lib.hid hg2
        clear hg2 c0 c1
        go_wp2_with fail
        go_roundw
        case rel =>
          refine ⟨j + 1, by go_num, by omega, Lib.hid ⟨fun x hx => ?_, HJ.out.2.2.trans G2.out⟩⟩
          rw [take_at HJ.out.1, ← HX.out, List.mem_append] at hx
          rcases hx with hx | hx
          · exact HJ.out.2.1 x hx
          · obtain rfl := List.mem_singleton.1 hx
            exact He.out
        case measure => simp [intOf]; omega
    · obtain rfl : j = n := by omega
      go_wp2_with fail
      go_ret2
      have h1 := I.out.1
      rw [Hn.out, List.take_length] at h1
      exact ⟨.inr ⟨rfl, look_none h1⟩, I.out.2⟩
theorem row_infoT : (Tryz.prog.info? 55).map (fun i => (i.zero, i.size, i.bytes)) = some (some (.slice none 0 0), 1, 24) := by kernel_rfl
theorem take_more7 {F : List Rw} {x : Rw} {N : Nat} : (F ++ [x]).take N = if (F.take N).length < N then F.take N ++ [x] else F.take N := by
  rw [List.length_take]
  by_cases h : F.length < N
  · rw [if_pos (by omega), List.take_of_length_le (by simp; omega), List.take_of_length_le (by omega)]
  · rw [if_neg (by omega), List.take_append_of_le_length (by omega)]
set_option maxRecDepth 100000 in
set_option maxHeartbeats 6400000 in
theorem refFrom_any (S : Nat → Prop) (a ka : Ptr) (cap kc : Nat) (l : List Pw) (key : List Vl) (N : Int) (w : World) (h : PsS S w a l) (hcap : l.length ≤ cap) (hk : RowAt w ka key) (hkg : key.all Vl.good = true) (hlg : ∀ x ∈ l, x.k.l.all Vl.good = true) :
    Calls Tryz.prog 35 #[.slice a l.length cap, .slice ka key.length kc, .int .i64 N] w fun e w' => (∃ v, e = .returned v ∧ w'.ownsRow w.heap.size 55 1 v ((fromP key l).take N.toNat).length (((fromP key l).take N.toNat).map Rw.v)) ∧ w.grownBy w' none := by
  have H := Lib.hid h
  have HS := Lib.hid (fun i (hi : i < l.length) W (hW : w.grownBy W none) => (refRows_any (l.getD i default).k.a ka (l.getD i default).k.cap kc (l.getD i default).k.l key W ((h.mem hi).1.keep (.of hW)).row (hk.keep (below_grownT hW)) (hlg _ (by simp [List.getD, hi])) hkg).mono fun e w' h => And.intro h.1 (grown_belowT h.2 none))
  have hl := h.1
  obtain ⟨n, hn⟩ : ∃ n, n = l.length := ⟨_, rfl⟩
  have Hn := Lib.hid hn
  rw [← hn] at hl hcap HS ⊢
  generalize key.length = m at *
  obtain ⟨i0, hi, hz0, hz1, hz2⟩ := info_partsT row_infoT
  clear h hk hn hkg hlg
  go_enter Tryz.func35, Tryz.ntmps35
  go_wp2_with fail
  go_loopw [7, 11] (fun s i wr => ∃ (ao : Ptr) (q co j : Nat), s = .slice ao q co ∧ i = .int .i64 j ∧ j ≤ n ∧ q ≤ j ∧ Hid (((fromP key (l.take j)).take N.toNat).length = q ∧ wr.ownsRow w.heap.size 55 1 (.slice ao q co) q (((fromP key (l.take j)).take N.toNat).map Rw.v) ∧ w.grownBy wr none)) (fun _ i _ => n - (intOf i).toNat)
  case atStart => exact ⟨none, 0, 0, 0, rfl, rfl, by omega, by omega, Lib.hid ⟨by simp [fromP], by simpa [fromP] using World.ownsRow_nil w w.heap.size 55 1, grown_reflT _ _⟩⟩
  case round =>
    obtain ⟨ao, q, co, j, rfl, rfl, hj, hqj, I⟩ := hrel
    by_cases hlt : j < n
    · obtain ⟨hq, hown, hgr⟩ := I.out
      have hjl : j < l.length := by rw [← Hn.out]; exact hlt
      obtain ⟨b, off, rfl, hb, c0, c1⟩ := (H.out.keep (.of hgr)).at (i := j) hjl
      have HS1 := Lib.hid (HS.out j hlt wr hgr)
      have HE := Lib.hid (fromP_step (key := key) (l := l) (j := j) hjl)
      obtain ⟨x, hx⟩ : ∃ x, x = l.getD j default := ⟨_, rfl⟩
      rw [← hx] at c0 c1 HS1 HE
      clear hx hjl
      obtain ⟨⟨xka, xkc, xkl⟩, ⟨xra, xrc, xrl⟩⟩ := x
      simp only [Rw.v] at c0 c1 HS1
      have D := Lib.hid (And.intro hq (And.intro hown hgr))
      have hB : w.heap.size ≤ wr.heap.size := hgr.size
      have i1 : (j : Int) ≤ cap := by omega
      clear hown hgr I hq
      obtain ⟨y, hy⟩ : ∃ y, y = xkl.length := ⟨_, rfl⟩
      obtain ⟨z, hz⟩ : ∃ z, z = xrl.length := ⟨_, rfl⟩
      have Hz := Lib.hid hz
      rw [← hy] at c0 HS1
      rw [← hz] at c1
      clear hy hz
      have F := Lib.hid (fun (W : World) (hW : wr.grownBy W none) => hW.cell c1 (by simp))
      by_cases he : rowsOrd xkl key < 0
      · rw [if_pos he, List.append_nil] at HE
        generalize rowsOrd xkl key = c at *
        have hc : ¬ 0 ≤ c := by omega
        clear he
        go_wp2_with fail
        refine HS1.out.mono ?_
        rintro e w2 ⟨rfl, hg2⟩
        have G2 := Lib.hid hg2
        clear hg2
        go_wp2_with fail
        go_roundw
        case rel => exact ⟨ao, q, co, j + 1, rfl, by go_num, by omega, by omega, Lib.hid (by rw [HE.out]; exact ⟨D.out.1, World.ownsRow.kept D.out.2.1 G2.out (by cases (Value.slice ao q co).ownBlock <;> simp), D.out.2.2.trans G2.out⟩)⟩
        case measure => simp [intOf]; omega
      · rw [if_neg he] at HE
        generalize rowsOrd xkl key = c at *
        have hc : 0 ≤ c := by omega
        have HT := Lib.hid (take_more7 (F := fromP key (l.take j)) (x := ⟨xra, xrc, xrl⟩) (N := N.toNat))
        clear he
        by_cases hqN : (q : Int) < N
        · have O2 := Lib.hid (fun W (hW : wr.grownBy W none) => World.ownsRow.kept D.out.2.1 hW (by cases (Value.slice ao q co).ownBlock <;> simp))
          go_wp2_with fail
          refine HS1.out.mono ?_
          rintro e w2 ⟨rfl, hg2⟩
          have G2 := Lib.hid hg2
          have d1 := F.out _ hg2
          have hB2 : w.heap.size ≤ w2.heap.size := Nat.le_trans hB hg2.size
          clear hg2 c0 c1
          go_wp2_with (at_builtin; refine wpList_append_lies _ rfl _ _ 51 rfl w.heap.size 55 i0 (.slice none 0 0) 1 24 Tryz.underlying51 hi hz0 hz1 hz2 rfl (by decide) (.slice ao q co) q (((fromP key (l.take j)).take N.toNat).map Rw.v) rfl (World.ownsRow.alloc (O2.out _ G2.out) _) ⟨w2.heap.size, 0, none⟩ 1 1 [.slice xra z xrc] rfl rfl (World.news_of_block (heap_alloc_new w2 _)) (by intro u hu; obtain rfl := List.mem_singleton.1 hu; rfl) (by decide) (by unfold maxLen; omega) (by omega) (by simp; omega) _ rfl ?_)
          intro g cp w4 hown4 hgrow4 hgb hg4
          have E4 := Lib.hid (And.intro hown4 hgrow4)
          clear hown4 hgrow4 hgb hg4
          go_wp2_with fail
          go_roundw
          case rel =>
            obtain ⟨hq, hown, hgr⟩ := D.out
            obtain ⟨hown4, hgrow4⟩ := E4.out
            have e : (fromP key (l.take (j + 1))).take N.toNat = (fromP key (l.take j)).take N.toNat ++ [⟨xra, xrc, xrl⟩] := by
              rw [HE.out, HT.out, if_pos (by rw [hq]; omega)]
            refine ⟨some ⟨g, 0, none⟩, q + 1, cp, j + 1, rfl, by go_num, by omega, by omega, Lib.hid ⟨by rw [e, List.length_append, hq]; rfl, ?_, ?_⟩⟩
            · rw [e, List.map_append, List.map_take]
              rw [Hz.out] at hown4
              exact hown4
            · exact grown_thenT ((hgr.trans G2.out).trans (World.grownBy_alloc w2 _ none)) hgrow4 (fun b hb => (World.ownsRow.lt hown b hb).1)
          case measure => simp [intOf]; omega
        · go_wp2_with fail
          refine HS1.out.mono ?_
          rintro e w2 ⟨rfl, hg2⟩
          have G2 := Lib.hid hg2
          clear hg2
          go_wp2_with fail
          go_roundw
          case rel =>
            obtain ⟨hq, hown, hgr⟩ := D.out
            have e : (fromP key (l.take (j + 1))).take N.toNat = (fromP key (l.take j)).take N.toNat := by
              rw [HE.out, HT.out, if_neg (by rw [hq]; omega)]
            exact ⟨ao, q, co, j + 1, rfl, by go_num, by omega, by omega, Lib.hid (by rw [e]; exact ⟨hq, World.ownsRow.kept hown G2.out (by cases (Value.slice ao q co).ownBlock <;> simp), hgr.trans G2.out⟩)⟩
          case measure => simp [intOf]; omega
    · obtain rfl : j = n := by omega
      go_wp2_with fail
      go_ret
      obtain ⟨hq, hown, hgr⟩ := I.out
      rw [Hn.out, List.take_length] at hq hown
      exact ⟨⟨_, rfl, by rw [hq]; exact hown⟩, hgr⟩
end Go.Proofs.YtnfpomjcofhppaaGreatDoor
