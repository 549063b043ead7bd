/- The law's change of rows by keys. Mathematics of StoreSteps: rows put one by one, in the order of their keys. The store's Since, told as one; what refuses has a number; a snapshot of a store that is. -/
import Derived.Test.YtnfpomjcofhppaaGreatDoorZb42
import Derived.Test.YtnfpomjcofhppaaGreatDoorZb21
import Derived.Test.YtnfpomjcofhppaaGreatDoorZb19
import Derived.Test.YtnfpomjcofhppaaGreatDoorZb20
namespace Go.Proofs.YtnfpomjcofhppaaGreatDoor
open Go.RowKit

/-- A change's box. -/
abbrev cChg (n : ByteArray) (oa : Ptr) (ol oc : Nat) (na : Ptr) (nl nc : Nat) : Obj := .cells #[.string n, .slice oa ol oc, .slice na nl nc] 59
set_option maxRecDepth 100000 in
set_option maxHeartbeats 6400000 in
theorem change_del (S : Nat → Prop) (a ta : Ptr) (cap tl tc kn : Nat) (tn cn : ByteArray) (l : List Pw) (ad : Addr) (oc : Nat) (ol : List Vl) (na : Ptr) (nc : Nat) (w : World) (hS : ∀ b, w.heap.size ≤ b → S b) (h : PsS S w a l) (hcap : l.length ≤ cap) (ho : RowAt w (some ad) ol) (hoc : ol.length ≤ oc) (hk1 : 1 ≤ kn) (hk : kn ≤ ol.length) (hlk : lookL (ol.take kn) (l.map Pw.p) = some ol) :
    Calls Tryz.prog 13 #[.slice a l.length cap, .agg #[.string tn, .slice ta tl tc, .int .i64 kn], .agg #[.string cn, .slice (some ad) ol.length oc, .slice na 0 nc]] w fun e w' => (∃ a' cap', e = .returned (.tuple #[.slice a' (delP (ol.take kn) l).length cap', .bool true]) ∧ (delP (ol.take kn) l).length ≤ cap' ∧ PsS S w' a' (delP (ol.take kn) l)) ∧ w.grownBy w' none := by
  have hl2 : (ol.take kn).length = kn := by rw [List.length_take]; omega
  have HG := Lib.hid (fun W (hW : w.grownBy W none) => refGet_any S a (some ad) cap oc l (ol.take kn) W (h.keep (.of hW)) hcap ((ho.pre hk).keep (below_grownT hW)))
  have HD := Lib.hid (fun W (hW : w.grownBy W none) => refDelete_ps S a (some ad) cap oc l (ol.take kn) W (fun b hb => hS b (Nat.le_trans hW.size hb)) (h.keep (.of hW)) hcap ((ho.pre hk).keep (below_grownT hW)))
  have HSm := Lib.hid (fun (x : Pw) (hx : x ∈ l) (he : x.r.l = ol) W (hW : w.grownBy W none) => (refSame_any x.r.a (some ad) x.r.cap oc x.r.l ol W ((h.2.1 x hx).2.keep (.of hW)).row (ho.keep (below_grownT hW))).mono fun e w' h => And.intro (h.1.trans (by rw [he, (ro_zero _ _).2 rfl])) (grown_belowT h.2 none))
  have HK := Lib.hid hlk
  rw [hl2] at HG HD
  obtain ⟨m, hm⟩ : ∃ m, m = ol.length := ⟨_, rfl⟩
  have Hm := Lib.hid hm
  have hm64 := ho.1
  rw [← hm] at hk hoc hm64 HSm ⊢
  clear h ho hlk hm hS
  have B1 := box3_new6 w (.string tn) (.slice ta tl tc) (.int .i64 (kn : Int)) 50
  have B2 := box3_new6 (w.alloc (cTb tn ta tl tc kn)) (.string cn) (.slice (some ad) m oc) (.slice na 0 nc) 59
  have hs1 : (w.alloc (cTb tn ta tl tc kn)).heap.size = w.heap.size + 1 := by simp
  rw [hs1] at B2
  have GA := (World.grownBy_alloc w (cTb tn ta tl tc kn) none).trans (World.grownBy_alloc _ (cChg cn (some ad) m oc na 0 nc) none)
  have g1 := World.grownBy_alloc (w.alloc (cTb tn ta tl tc kn)) (cChg cn (some ad) m oc na 0 nc) none
  have F := Lib.hid (fun W (hW : ((w.alloc (cTb tn ta tl tc kn)).alloc (cChg cn (some ad) m oc na 0 nc)).grownBy W none) => show (W.cell? ⟨w.heap.size + 1, 1, none⟩ = some (.slice (some ad) m oc) ∧ W.cell? ⟨w.heap.size + 1, 2, none⟩ = some (.slice na 0 nc)) from ⟨hW.cell B2.2.1 (by simp), hW.cell B2.2.2 (by simp)⟩)
  have K0 := Lib.hid GA
  obtain ⟨D, hD⟩ : ∃ D, D = delP (ol.take kn) l := ⟨_, rfl⟩
  rw [← hD] at HD ⊢
  clear hD
  have b0 := g1.cell B1.2.2 (by simp)
  obtain ⟨b1, b2⟩ := F.out _ (grown_reflT _ _)
  clear B1 B2 GA g1 hs1
  go_enter Tryz.func13, Tryz.ntmps13
  go_wp2_with fail
  refine (HG.out _ K0.out).mono ?_
  rintro e w2 ⟨hx, hg2⟩
  obtain ⟨d1, d2⟩ := F.out _ hg2
  have G2 := Lib.hid (K0.out.trans hg2)
  rcases hx with ⟨⟨⟨ka, kc, kl⟩, ⟨xa, xc, xl⟩⟩, hxm, rfl, hxl⟩ | ⟨rfl, hxl⟩
  case inr => rw [HK.out] at hxl; cases hxl
  have hxe : xl = ol := Option.some.inj (hxl.symm.trans HK.out)
  have HSx := Lib.hid (fun W hW => (HSm.out _ hxm hxe W hW))
  have hxlen : xl.length = m := by rw [hxe]; exact Hm.out.symm
  simp only [Rw.v, hxlen] at HSx ⊢
  clear hg2 b0 b1 b2 hxm hxl hxe hxlen HSm
  have hm0 : ¬ ((m : Int) = 0) := by omega
  have hm1 : (0 : Int) < (m : Int) := by omega
  go_wp2_with fail
  refine (HSx.out _ G2.out).mono ?_
  rintro e w3 ⟨rfl, hg3⟩
  have G3 := Lib.hid hg3
  clear hg3
  have d2' := G3.out.cell d2 (by simp)
  have G3' := Lib.hid (G2.out.trans G3.out)
  clear d1 d2
  go_wp2_with fail
  refine (HD.out _ G3'.out).mono ?_
  rintro e w4 ⟨⟨a', cap', rfl, hcap', hps⟩, hg4⟩
  have G4 := Lib.hid (And.intro hps (And.intro hcap' (G3'.out.trans hg4)))
  clear hps hcap' hg4
  go_wp2_with fail
  go_ret2
  exact ⟨⟨a', cap', rfl, G4.out.2.1, G4.out.1⟩, G4.out.2.2⟩
theorem all_take {l : List Vl} {p : Vl → Bool} {k : Nat} (h : l.all p = true) : (l.take k).all p = true := List.all_eq_true.2 fun x hx => List.all_eq_true.1 h x (List.mem_of_mem_take hx)
theorem RwS.pre {S : Nat → Prop} {w : World} {a : Option Addr} {l : List Vl} (h : RwS S w a l) {k : Nat} (hk : k ≤ l.length) : RwS S w a (l.take k) := by
  refine ⟨by rw [List.length_take]; have := h.1; omega, fun x hx => h.2.1 x (List.mem_of_mem_take hx), ?_⟩
  rcases h.2.2 with h0 | ⟨b, off, e, hs, hlt, hc⟩
  · exact .inl (by rw [h0]; simp)
  · refine .inr ⟨b, off, e, hs, hlt, fun i hi => ?_⟩
    rw [List.length_take] at hi
    have e : (l.take k).getD i default = l.getD i default := by simp [List.getD, show i < k by omega]
    rw [e]
    exact hc i (by omega)
set_option maxRecDepth 100000 in
set_option maxHeartbeats 6400000 in
theorem change_new (S : Nat → Prop) (a ta : Ptr) (cap tl tc kn : Nat) (tn cn : ByteArray) (l : List Pw) (oa : Ptr) (oc : Nat) (ad : Addr) (nc : Nat) (nl : List Vl) (w : World) (hS : ∀ b, w.heap.size ≤ b → S b) (h : PsS S w a l) (hcap : l.length ≤ cap) (hn : RwS S w (some ad) nl) (hng : nl.all Vl.good = true) (hnc : nl.length ≤ nc) (hk1 : 1 ≤ kn) (hk : kn ≤ nl.length) (hlg : ∀ x ∈ l, x.k.l.all Vl.good = true) (hl : l.length ≤ 90000) (hlk : lookL (nl.take kn) (l.map Pw.p) = none) :
    Calls Tryz.prog 13 #[.slice a l.length cap, .agg #[.string tn, .slice ta tl tc, .int .i64 kn], .agg #[.string cn, .slice oa 0 oc, .slice (some ad) nl.length nc]] w fun e w' => (∃ a' cap', e = .returned (.tuple #[.slice a' (insP ⟨⟨some ad, nc, nl.take kn⟩, ⟨some ad, nc, nl⟩⟩ (delP (nl.take kn) l)).length cap', .bool true]) ∧ (insP ⟨⟨some ad, nc, nl.take kn⟩, ⟨some ad, nc, nl⟩⟩ (delP (nl.take kn) l)).length ≤ cap' ∧ PsS S w' a' (insP ⟨⟨some ad, nc, nl.take kn⟩, ⟨some ad, nc, nl⟩⟩ (delP (nl.take kn) l))) ∧ w.grownBy w' none := by
  have hl2 : (nl.take kn).length = kn := by rw [List.length_take]; omega
  have hk2 : RwS S w (some ad) (nl.take kn) := hn.pre hk
  have HG := Lib.hid (fun W (hW : w.grownBy W none) => refGet_any S a (some ad) cap nc l (nl.take kn) W (h.keep (.of hW)) hcap (hk2.row.keep (below_grownT hW)))
  have HP := Lib.hid (fun W (hW : w.grownBy W none) => refPut_any S a (some ad) (some ad) cap nc nc l (nl.take kn) nl W (fun b hb => hS b (Nat.le_trans hW.size hb)) (h.keep (.of hW)) hcap (hk2.keep (.of hW)) (hn.keep (.of hW)) (all_take hng) hlg hl)
  have HSx := Lib.hid (fun W (hW : w.grownBy W none) => (refSame_any none oa 0 oc [] [] W ⟨by simp, by simp, .inl rfl⟩ ⟨by simp, by simp, .inl rfl⟩).mono fun e w' h => And.intro (h.1.trans (by rw [(ro_zero _ _).2 rfl])) (grown_belowT h.2 none))
  simp only [List.length_nil] at HSx
  have HK := Lib.hid hlk
  rw [hl2] at HG HP
  obtain ⟨n, hnn⟩ : ∃ n, n = nl.length := ⟨_, rfl⟩
  have hn64 := hn.row.1
  rw [← hnn] at hk hnc hn64 HP ⊢
  obtain ⟨D, hD⟩ : ∃ D, D = insP ⟨⟨some ad, nc, nl.take kn⟩, ⟨some ad, nc, nl⟩⟩ (delP (nl.take kn) l) := ⟨_, rfl⟩
  rw [← hD] at HP ⊢
  clear h hn hng hlg hlk hk2 hS hD hnn 
  have B1 := box3_new6 w (.string tn) (.slice ta tl tc) (.int .i64 (kn : Int)) 50
  have B2 := box3_new6 (w.alloc (cTb tn ta tl tc kn)) (.string cn) (.slice oa 0 oc) (.slice (some ad) n nc) 59
  have hs1 : (w.alloc (cTb tn ta tl tc kn)).heap.size = w.heap.size + 1 := by simp
  rw [hs1] at B2
  have GA := (World.grownBy_alloc w (cTb tn ta tl tc kn) none).trans (World.grownBy_alloc _ (cChg cn oa 0 oc (some ad) n nc) none)
  have g1 := World.grownBy_alloc (w.alloc (cTb tn ta tl tc kn)) (cChg cn oa 0 oc (some ad) n nc) none
  have F := Lib.hid (fun W (hW : ((w.alloc (cTb tn ta tl tc kn)).alloc (cChg cn oa 0 oc (some ad) n nc)).grownBy W none) => show (W.cell? ⟨w.heap.size + 1, 1, none⟩ = some (.slice oa 0 oc) ∧ W.cell? ⟨w.heap.size + 1, 2, none⟩ = some (.slice (some ad) n nc)) from ⟨hW.cell B2.2.1 (by simp), hW.cell B2.2.2 (by simp)⟩)
  have K0 := Lib.hid GA
  have b0 := g1.cell B1.2.2 (by simp)
  obtain ⟨b1, b2⟩ := F.out _ (grown_reflT _ _)
  have hn0 : ¬ ((n : Int) = 0) := by omega
  clear B1 B2 GA g1 hs1
  go_enter Tryz.func13, Tryz.ntmps13
  go_wp2_with fail
  refine (HG.out _ K0.out).mono ?_
  rintro e w2 ⟨hx, hg2⟩
  obtain ⟨d1, d2⟩ := F.out _ hg2
  have G2 := Lib.hid (K0.out.trans hg2)
  rcases hx with ⟨⟨⟨ka, kc, kl⟩, ⟨xa, xc, xl⟩⟩, hxm, rfl, hxl⟩ | ⟨rfl, hxl⟩
  case inl => rw [HK.out] at hxl; cases hxl
  clear hg2 b0 b1 b2 hxl
  go_wp2_with fail
  refine (HSx.out _ G2.out).mono ?_
  rintro e w3 ⟨rfl, hg3⟩
  have G3 := Lib.hid hg3
  clear hg3
  have d2' := G3.out.cell d2 (by simp)
  have G3' := Lib.hid (G2.out.trans G3.out)
  clear d1 d2
  go_wp2_with fail
  refine (HP.out _ G3'.out).mono ?_
  rintro e w4 ⟨⟨a', cap', rfl, hcap', hps⟩, hg4⟩
  have G4 := Lib.hid (And.intro hps (And.intro hcap' (G3'.out.trans hg4)))
  clear hps hcap' hg4
  go_wp2_with fail
  go_ret2
  exact ⟨⟨a', cap', rfl, G4.out.2.1, G4.out.1⟩, G4.out.2.2⟩
set_option maxRecDepth 100000 in
set_option maxHeartbeats 6400000 in
theorem change_put (S : Nat → Prop) (a ta : Ptr) (cap tl tc kn : Nat) (tn cn : ByteArray) (l : List Pw) (oa : Ptr) (oc : Nat) (ol : List Vl) (ad : Addr) (nc : Nat) (nl : List Vl) (w : World) (hS : ∀ b, w.heap.size ≤ b → S b) (h : PsS S w a l) (hcap : l.length ≤ cap) (ho : RowAt w oa ol) (ho1 : 1 ≤ ol.length) (hn : RwS S w (some ad) nl) (hng : nl.all Vl.good = true) (hnc : nl.length ≤ nc) (hk1 : 1 ≤ kn) (hk : kn ≤ nl.length) (hlg : ∀ x ∈ l, x.k.l.all Vl.good = true) (hl : l.length ≤ 90000) (hlk : lookL (nl.take kn) (l.map Pw.p) = some ol) :
    Calls Tryz.prog 13 #[.slice a l.length cap, .agg #[.string tn, .slice ta tl tc, .int .i64 kn], .agg #[.string cn, .slice oa ol.length oc, .slice (some ad) nl.length nc]] w fun e w' => (∃ a' cap', e = .returned (.tuple #[.slice a' (insP ⟨⟨some ad, nc, nl.take kn⟩, ⟨some ad, nc, nl⟩⟩ (delP (nl.take kn) l)).length cap', .bool true]) ∧ (insP ⟨⟨some ad, nc, nl.take kn⟩, ⟨some ad, nc, nl⟩⟩ (delP (nl.take kn) l)).length ≤ cap' ∧ PsS S w' a' (insP ⟨⟨some ad, nc, nl.take kn⟩, ⟨some ad, nc, nl⟩⟩ (delP (nl.take kn) l))) ∧ w.grownBy w' none := by
  have hl2 : (nl.take kn).length = kn := by rw [List.length_take]; omega
  have hk2 : RwS S w (some ad) (nl.take kn) := hn.pre hk
  have HG := Lib.hid (fun W (hW : w.grownBy W none) => refGet_any S a (some ad) cap nc l (nl.take kn) W (h.keep (.of hW)) hcap (hk2.row.keep (below_grownT hW)))
  have HP := Lib.hid (fun W (hW : w.grownBy W none) => refPut_any S a (some ad) (some ad) cap nc nc l (nl.take kn) nl W (fun b hb => hS b (Nat.le_trans hW.size hb)) (h.keep (.of hW)) hcap (hk2.keep (.of hW)) (hn.keep (.of hW)) (all_take hng) hlg hl)
  have HSm := Lib.hid (fun (x : Pw) (hx : x ∈ l) (he : x.r.l = ol) W (hW : w.grownBy W none) => (refSame_any x.r.a oa x.r.cap oc x.r.l ol W ((h.2.1 x hx).2.keep (.of hW)).row (ho.keep (below_grownT hW))).mono fun e w' h => And.intro (h.1.trans (by rw [he, (ro_zero _ _).2 rfl])) (grown_belowT h.2 none))
  have HK := Lib.hid hlk
  rw [hl2] at HG HP
  obtain ⟨m, hm⟩ : ∃ m, m = ol.length := ⟨_, rfl⟩
  have Hm := Lib.hid hm
  have hm64 := ho.1
  rw [← hm] at ho1 hm64 HSm ⊢
  obtain ⟨n, hnn⟩ : ∃ n, n = nl.length := ⟨_, rfl⟩
  have hn64 := hn.row.1
  rw [← hnn] at hk hnc hn64 HP ⊢
  obtain ⟨D, hD⟩ : ∃ D, D = insP ⟨⟨some ad, nc, nl.take kn⟩, ⟨some ad, nc, nl⟩⟩ (delP (nl.take kn) l) := ⟨_, rfl⟩
  rw [← hD] at HP ⊢
  clear h hn hng hlg hlk hk2 hS hD hnn ho hm
  have B1 := box3_new6 w (.string tn) (.slice ta tl tc) (.int .i64 (kn : Int)) 50
  have B2 := box3_new6 (w.alloc (cTb tn ta tl tc kn)) (.string cn) (.slice oa m oc) (.slice (some ad) n nc) 59
  have hs1 : (w.alloc (cTb tn ta tl tc kn)).heap.size = w.heap.size + 1 := by simp
  rw [hs1] at B2
  have GA := (World.grownBy_alloc w (cTb tn ta tl tc kn) none).trans (World.grownBy_alloc _ (cChg cn oa m oc (some ad) n nc) none)
  have g1 := World.grownBy_alloc (w.alloc (cTb tn ta tl tc kn)) (cChg cn oa m oc (some ad) n nc) none
  have F := Lib.hid (fun W (hW : ((w.alloc (cTb tn ta tl tc kn)).alloc (cChg cn oa m oc (some ad) n nc)).grownBy W none) => show (W.cell? ⟨w.heap.size + 1, 1, none⟩ = some (.slice oa m oc) ∧ W.cell? ⟨w.heap.size + 1, 2, none⟩ = some (.slice (some ad) n nc)) from ⟨hW.cell B2.2.1 (by simp), hW.cell B2.2.2 (by simp)⟩)
  have K0 := Lib.hid GA
  have b0 := g1.cell B1.2.2 (by simp)
  obtain ⟨b1, b2⟩ := F.out _ (grown_reflT _ _)
  have hn0 : ¬ ((n : Int) = 0) := by omega
  clear B1 B2 GA g1 hs1
  go_enter Tryz.func13, Tryz.ntmps13
  go_wp2_with fail
  refine (HG.out _ K0.out).mono ?_
  rintro e w2 ⟨hx, hg2⟩
  obtain ⟨d1, d2⟩ := F.out _ hg2
  have G2 := Lib.hid (K0.out.trans hg2)
  rcases hx with ⟨⟨⟨ka, kc, kl⟩, ⟨xa, xc, xl⟩⟩, hxm, rfl, hxl⟩ | ⟨rfl, hxl⟩
  case inr => rw [HK.out] at hxl; cases hxl
  have hxe : xl = ol := Option.some.inj (hxl.symm.trans HK.out)
  have HSx := Lib.hid (fun W hW => (HSm.out _ hxm hxe W hW))
  have hxlen : xl.length = m := by rw [hxe]; exact Hm.out.symm
  simp only [Rw.v, hxlen] at HSx ⊢
  clear hg2 b0 b1 b2 hxm hxl hxe hxlen HSm
  have hm1 : (0 : Int) < (m : Int) := by omega
  go_wp2_with fail
  refine (HSx.out _ G2.out).mono ?_
  rintro e w3 ⟨rfl, hg3⟩
  have G3 := Lib.hid hg3
  clear hg3
  have d2' := G3.out.cell d2 (by simp)
  have G3' := Lib.hid (G2.out.trans G3.out)
  clear d1 d2
  go_wp2_with fail
  refine (HP.out _ G3'.out).mono ?_
  rintro e w4 ⟨⟨a', cap', rfl, hcap', hps⟩, hg4⟩
  have G4 := Lib.hid (And.intro hps (And.intro hcap' (G3'.out.trans hg4)))
  clear hps hcap' hg4
  go_wp2_with fail
  go_ret2
  exact ⟨⟨a', cap', rfl, G4.out.2.1, G4.out.1⟩, G4.out.2.2⟩
theorem RwS.some {S : Nat → Prop} {w : World} {a : Ptr} {l : List Vl} (h : RwS S w a l) (hl : 1 ≤ l.length) : ∃ ad, a = some ad := by
  rcases h.2.2 with h0 | ⟨b, off, e, _⟩
  · rw [h0] at hl; simp at hl
  · exact ⟨_, e⟩
/-- The law's change does what the mathematics' does. -/
theorem lawChange_any (S : Nat → Prop) (a ta : Ptr) (cap tl tc kn : Nat) (tn : ByteArray) (l : List Pw) (d : Cg) (w : World) (l' : PL) (hS : ∀ b, w.heap.size ≤ b → S b) (h : PsS S w a l) (hcap : l.length ≤ cap) (ho : RwS S w d.o.a d.o.l) (hn : RwS S w d.n.a d.n.l) (hoc : d.o.l.length ≤ d.o.cap) (hnc : d.n.l.length ≤ d.n.cap) (hng : d.n.l.all Vl.good = true) (hk1 : 1 ≤ kn) (hlg : ∀ x ∈ l, x.k.l.all Vl.good = true) (hl : l.length ≤ 90000) (hc : changeL kn (l.map Pw.p) d.o.l d.n.l = some l') :
    Calls Tryz.prog 13 #[.slice a l.length cap, .agg #[.string tn, .slice ta tl tc, .int .i64 kn], .agg #[.string d.t, d.o.v, d.n.v]] w fun e w' => (∃ a' cap' l2, e = .returned (.tuple #[.slice a' l2.length cap', .bool true]) ∧ l2.length ≤ cap' ∧ PsS S w' a' l2 ∧ l2.map Pw.p = l' ∧ (∀ x ∈ l2, x.k.l.all Vl.good = true)) ∧ w.grownBy w' none := by
  obtain ⟨cn, ⟨oa, oc, ol⟩, ⟨na, nc, nl⟩⟩ := d
  simp only [Rw.v] at *
  unfold changeL at hc
  by_cases hnl : nl = []
  · subst hnl
    rw [if_pos (rfl : ([] : List Vl) = []), if_pos (rfl : ([] : List Vl) = [])] at hc
    split at hc
    · cases hc
    next hlen =>
    have hk : kn ≤ ol.length := by omega
    obtain ⟨ad, rfl⟩ := ho.some (by omega)
    have ho0 : ¬ ol = [] := fun e => by rw [e] at hk; simp at hk; omega
    rw [if_neg ho0] at hc
    split at hc
    next hlk =>
      refine (change_del S a ta cap tl tc kn tn cn l ad oc ol na nc w hS h hcap ho.row hoc hk1 hk hlk).mono ?_
      rintro e w' ⟨⟨a', cap', rfl, h1, h2⟩, hg⟩
      exact ⟨⟨a', cap', _, rfl, h1, h2, (delP_p _ _).trans (Option.some.inj hc), fun x hx => hlg x (delP_mem hx)⟩, hg⟩
    · cases hc
  · rw [if_neg hnl, if_neg hnl] at hc
    split at hc
    · cases hc
    next hlen =>
    have hk : kn ≤ nl.length := by omega
    obtain ⟨ad, rfl⟩ := hn.some (by omega)
    have hp : Tr.putL rowsOrd (nl.take kn) nl (l.map Pw.p) = l' → ∀ x : Pw, x.k.l = nl.take kn → x.r.l = nl → (insP x (delP (nl.take kn) l)).map Pw.p = l' ∧ ∀ y ∈ insP x (delP (nl.take kn) l), y.k.l.all Vl.good = true := fun hc x hxk hxr => ⟨by
      rw [insP_p, delP_p, hxk, hxr]; exact hc, fun y hy => by
      rcases insP_mem hy with rfl | hy
      · rw [hxk]; exact all_take hng
      · exact hlg y (delP_mem hy)⟩
    by_cases hol : ol = []
    · subst hol
      rw [if_pos (rfl : ([] : List Vl) = [])] at hc
      split at hc
      next hlk =>
        refine (change_new S a ta cap tl tc kn tn cn l oa oc ad nc nl w hS h hcap hn hng hnc hk1 hk hlg hl hlk).mono ?_
        rintro e w' ⟨⟨a', cap', rfl, h1, h2⟩, hg⟩
        exact ⟨⟨a', cap', _, rfl, h1, h2, (hp (Option.some.inj hc) _ rfl rfl).1, (hp (Option.some.inj hc) _ rfl rfl).2⟩, hg⟩
      · cases hc
    · rw [if_neg hol] at hc
      split at hc
      next hlk =>
        refine (change_put S a ta cap tl tc kn tn cn l oa oc ol ad nc nl w hS h hcap ho.row (by cases ol with | nil => exact absurd rfl hol | cons _ _ => simp) hn hng hnc hk1 hk hlg hl hlk).mono ?_
        rintro e w' ⟨⟨a', cap', rfl, h1, h2⟩, hg⟩
        exact ⟨⟨a', cap', _, rfl, h1, h2, (hp (Option.some.inj hc) _ rfl rfl).1, (hp (Option.some.inj hc) _ rfl rfl).2⟩, hg⟩
      · cases hc
end Go.Proofs.YtnfpomjcofhppaaGreatDoor
namespace Go.Proofs.YtnfpomjcofhppaaGreatDoor
open Go.RowKit

theorem putL_end {k r : List Vl} : ∀ {l : PL}, (∀ x ∈ l, rowsOrd x.1 k < 0) → Tr.putL rowsOrd k r l = l ++ [(k, r)] := fun {l} h => by
  unfold Tr.putL
  rw [Tr.delL_none (fun x hx => by have := h x hx; omega)]
  induction l with
  | nil => rfl
  | cons x l ih =>
    have h0 := h x List.mem_cons_self
    have ht : rowsOrd k x.1 = - rowsOrd x.1 k := ro_ord.turn _ _
    simp only [Tr.ins]
    rw [if_neg (by omega), ih (fun y hy => h y (List.mem_cons_of_mem _ hy))]
    rfl
/-- Behind i rows of a sorted list: its first i. -/
theorem putL_take {l : PL} (hs : Tr.Sorted rowsOrd l) {i : Nat} (hi : i < l.length) : Tr.putL rowsOrd (l[i]).1 (l[i]).2 (l.take i) = l.take (i + 1) := by
  rw [putL_end (fun x hx => ?_), List.take_succ_eq_append_getElem hi]
  obtain ⟨j, hj, rfl⟩ := List.getElem_of_mem hx
  rw [List.length_take] at hj
  rw [List.getElem_take]
  exact (List.pairwise_iff_getElem.1 hs) j i (by omega) hi (by omega)
end Go.Proofs.YtnfpomjcofhppaaGreatDoor
namespace Go.Proofs.YtnfpomjcofhppaaGreatDoor
open Go.RowKit

def sinceC (s : Stm) (v : Int) : Int := if v < s.v - s.cs.length then 25 else 0
def sinceL (s : Stm) (v : Int) : List (Int × List (ByteArray × List Vl × List Vl)) := if v < s.v - s.cs.length then [] else (s.cs.drop (s.cs.length - (s.v - v).toNat)).map Cm.p
theorem sinceX_any (B : Nat) (s : Stm) (w : World) (v : Int) (h : SAt B w s) (hv : v ≤ s.v) :
    Calls Tryz.prog 10 #[.pointer (some ⟨s.b, 0, none⟩), .int .i64 v] w fun e w' => (∃ (a : Ptr) (m co : Nat), e = .returned (.tuple #[.slice a m co, .int .i64 (sinceC s v)]) ∧ Hid (∃ cs' : List Cm, cs'.length = m ∧ (m ≤ co ∧ ∀ x ∈ cs', capsL x.l) ∧ CmS (fun b => w.heap.size ≤ b) w' a cs' ∧ cs'.map Cm.p = sinceL s v)) ∧ w.grownBy w' none := by
  have h0 := h.v0
  have h1 := h.v1
  have hf := h.few
  refine sinceS_any B s w v _ h ?_
  by_cases hg : v < s.v - s.cs.length
  · refine (sinceJ_gone s.R s.J w 32 s.v v s.ja s.jc s.cs h.jou h0 (by omega) (by omega) hg).mono ?_
    rintro e w' ⟨rfl, hg'⟩
    have e1 : sinceC s v = 25 := by unfold sinceC; rw [if_pos hg]
    exact ⟨_, _, rfl, ⟨none, 0, 0, by rw [e1], Lib.hid ⟨[], rfl, ⟨Nat.le_refl _, by simp⟩, ⟨by simp, by simp, .inl rfl⟩, by unfold sinceL; rw [if_pos hg]; rfl⟩⟩, hg'⟩
  · refine (sinceJ_any s.R s.J w 32 s.v v s.ja s.jc s.cs (s.v - v).toNat h.jou h0 (by omega) (by omega) (by omega) (by omega)).mono ?_
    rintro e w' ⟨⟨ao, co, cs', rfl, h2, h3, h4, h5⟩, hg'⟩
    have e1 : sinceC s v = 0 := by unfold sinceC; rw [if_neg hg]
    exact ⟨_, _, rfl, ⟨ao, _, co, by rw [e1], Lib.hid ⟨cs', h2, h3, h4, by unfold sinceL; rw [if_neg hg]; exact h5⟩⟩, hg'⟩
theorem commitM_no {ts : List Tb} {tr : Nat → Tre} {l : List Om} {c : Int} (h : commitM ts tr l = .error c) : (c == 0) = false := by
  have hd : ∀ s o c, doM ts s o = .error c → c = 1 ∨ c = 14 ∨ c = 20 ∨ c = 21 ∨ c = 22 := fun s o c h => by
    unfold doM at h
    split at h
    · next c' hc =>
      have e : c' = c := by cases h; rfl
      subst e
      unfold claimM at hc
      split at hc
      · cases hc; simp
      · split at hc
        · cases hc; simp
        · split at hc
          · cases hc; simp
          · split at hc
            · cases hc; simp
            · cases hc
    · split at h
      · split at h
        · cases h; simp
        · cases h
      · split at h
        · cases h
        · split at h <;> cases h
  have ho : ∀ l s c, opsM ts s l = .error c → c = 1 ∨ c = 14 ∨ c = 20 ∨ c = 21 ∨ c = 22 := by
    intro l
    induction l with
    | nil => intro s c h; simp [opsM] at h
    | cons o l ih =>
      intro s c h
      simp only [opsM] at h
      cases hs : doM ts s o with
      | error c2 =>
        rw [hs] at h
        have e : c2 = c := by cases h; rfl
        subst e
        exact hd s o _ hs
      | ok s' => rw [hs] at h; exact ih s' c h
  unfold commitM at h
  split at h
  · cases h; rfl
  · split at h
    · cases h; rfl
    · cases hs : opsM ts ⟨tr, [], []⟩ l with
      | error c2 =>
        rw [hs] at h
        have e : c2 = c := by cases h; rfl
        subst e
        rcases ho l _ _ hs with rfl | rfl | rfl | rfl | rfl <;> rfl
      | ok s' =>
        rw [hs] at h
        simp only at h
        split at h
        · cases h; rfl
        · cases h
end Go.Proofs.YtnfpomjcofhppaaGreatDoor
