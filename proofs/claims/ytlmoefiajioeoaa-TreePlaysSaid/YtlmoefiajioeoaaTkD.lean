/- An act done to both. -/
import Derived.Test.YtlmoefiajioeoaaTkT
import Derived.Deep.RegionWith
import Derived.Deep.RegionHeld3
namespace Go.Proofs.Ytlmoefiajioeoaa
open Go.RowKit

/-- What an act makes of both. -/
def Done (S S2 : Nat → Prop) (d : Bool) (K R : Rw) (t : Tre) (l : List Pw) (W : World) (q a' : Ptr) (cap' : Nat) : Prop := (doP d K R l).length ≤ cap' ∧ TrAt S W (doT d K R t) q ∧ PsS S2 W a' (doP d K R l)
set_option maxRecDepth 100000 in
set_option maxHeartbeats 6400000 in
theorem Do_any (S S2 : Nat → Prop) (t : Tre) (p a ka ra : Ptr) (cap kc rc : Nat) (d : Bool) (l : List Pw) (k r : List Vl) (w : World) (hS : ∀ b, w.heap.size ≤ b → S b) (hS2 : ∀ b, w.heap.size ≤ b → S2 b) (ht : TrAt S w t p) (h : PsS S2 w a l) (hcap : l.length ≤ cap) (hk : RwS S2 w ka k) (hr : RwS S2 w ra r) (hkg : k.all Vl.good = true) (hlg : ∀ x ∈ l, x.k.l.all Vl.good = true) (hsort : Tr.Sorted rowsOrd t.toL) (hn : t.n ≤ 400000000) (hl : l.length ≤ 90000) :
    Calls Try.prog 12 #[.pointer p, .slice a l.length cap, .agg #[.bool d, .slice ka k.length kc, .slice ra r.length rc]] w fun e w' => (∃ q a' cap', e = .returned (.tuple #[.pointer q, .slice a' (doP d ⟨ka, kc, k⟩ ⟨ra, rc, r⟩ l).length cap']) ∧ Done S S2 d ⟨ka, kc, k⟩ ⟨ra, rc, r⟩ t l w' q a' cap') ∧ w.grownBy w' none := by
  have G0 := Lib.hid (World.grownBy_alloc w (.cells #[.bool d, .slice ka k.length kc, .slice ra r.length rc] 31) none)
  have X0 := Lib.hid (show (w.alloc (.cells #[.bool d, .slice ka k.length kc, .slice ra r.length rc] 31)).cell? ⟨w.heap.size, 1, none⟩ = some (.slice ka k.length kc) ∧ (w.alloc (.cells #[.bool d, .slice ka k.length kc, .slice ra r.length rc] 31)).cell? ⟨w.heap.size, 2, none⟩ = some (.slice ra r.length rc) from ⟨cell_of_row _ _ 1 _ _ _ (heap_alloc_new w _), cell_of_row _ _ 2 _ _ _ (heap_alloc_new w _)⟩)
  cases d with
  | true =>
    have T1 := Lib.hid (fun W (hW : w.grownBy W none) => Makes.calls (delete_any S t k ka kc p W (hsS hS hW) (ht.keep (.of hW)) (hk.row.keep (below_grownT hW)) hsort hn))
    have T2 := Lib.hid (fun W (hW : w.grownBy W none) => refDelete_ps S2 a ka cap kc l k W (hsS hS2 hW) (h.keep (.of hW)) hcap (hk.row.keep (below_grownT hW)))
    clear ht h hk hr hkg hlg hsort hS hS2
    generalize k.length = m at *
    generalize r.length = rm at *
    unfold Done doP doT
    simp only [if_true]
    generalize delP k l = l' at *
    obtain ⟨n', hn'⟩ : ∃ n', n' = l'.length := ⟨_, rfl⟩
    have Hn' := Lib.hid hn'
    rw [← hn'] at T2 ⊢
    clear hn'
    generalize l.length = n at *
    go_enter Try.func12, Try.ntmps12
    go_upto_region 2 with fail
    generalize w.alloc (.cells #[.bool true, .slice ka m kc, .slice ra rm rc] 31) = w0 at *
    obtain ⟨x1, x2⟩ := X0.out
    have F := Lib.hid (fun (W : World) (hW : w0.grownBy W none) => hW.cell x1 (by simp))
    have C0 := Lib.hid (grown_drewT (grown_reflT w0 none))
    go_cut [6, 7] (fun s6 s7 wx => ∃ q a' cap', s6 = .pointer q ∧ s7 = .slice a' n' cap' ∧ Hid ((n' ≤ cap' ∧ TrAt S wx (Tr.del rowsOrd k t) q ∧ PsS S2 wx a' l') ∧ w0.grownBy wx none))
    case first =>
      go_region_with (first
        | (go_at_call 32; (with_reducible refine (T1.out _ (by first | exact G0.out.trans C0.out | exact G0.out.trans Gb.out)).mono ?_); rintro e w2 ⟨⟨q, rfl, hq⟩, hg2⟩; (first | (have Ga := Lib.hid (Gb.out.trans hg2)) | (have Ga := Lib.hid (C0.out.trans hg2))); have ya := F.out _ Ga.out; have Ha := Lib.hid (And.intro hq hg2); clear hq hg2)
        | (go_at_call 33; (with_reducible refine (T2.out _ (by first | exact G0.out.trans C0.out | exact G0.out.trans Ga.out)).mono ?_); rintro e w3 ⟨⟨a', cap', rfl, hc', hp'⟩, hg3⟩; (first | (have Gb := Lib.hid (Ga.out.trans hg3)) | (have Gb := Lib.hid (C0.out.trans hg3))); have yb := F.out _ Gb.out; have Hb := Lib.hid (And.intro hc' (And.intro hp' hg3)); clear hc' hp' hg3))
      all_goals
        go_wp2_with fail
        go_meet
        first
        | exact ⟨q, a', cap', rfl, rfl, Lib.hid ⟨⟨Hb.out.1, Ha.out.1.keep (.of Hb.out.2.2), Hb.out.2.1⟩, Gb.out⟩⟩
        | exact ⟨q, a', cap', rfl, rfl, Lib.hid ⟨⟨Hb.out.1, Ha.out.1, Hb.out.2.1.keep (.of Ha.out.2)⟩, Ga.out⟩⟩
    case rest =>
    obtain ⟨q, a', cap', rfl, rfl, I⟩ := hcut
    go_wp2_with fail
    go_ret2
    exact ⟨⟨q, a', cap', rfl, I.out.1⟩, G0.out.trans I.out.2⟩
  | false =>
    have T1 := Lib.hid (fun W (hW : w.grownBy W none) => Makes.calls (Put_any S t p ka ra kc rc k r W (hsS hS hW) (ht.keep (.of hW)) (hk.row.keep (below_grownT hW)) (hr.row.keep (below_grownT hW)) hk.1 hr.1 (by omega)))
    have T2 := Lib.hid (fun W (hW : w.grownBy W none) => refPut_any S2 a ka ra cap kc rc l k r W (hsS hS2 hW) (h.keep (.of hW)) hcap (hk.keep (.of hW)) (hr.keep (.of hW)) hkg hlg hl)
    clear ht h hk hr hkg hlg hsort hS hS2
    unfold Done doP doT
    simp only [Bool.false_eq_true, if_false]
    generalize insP ⟨⟨ka, kc, k⟩, ⟨ra, rc, r⟩⟩ (delP k l) = l' at *
    generalize Tr.put rowsOrd k r t = t' at *
    generalize k.length = m at *
    generalize r.length = rm at *
    obtain ⟨n', hn'⟩ : ∃ n', n' = l'.length := ⟨_, rfl⟩
    have Hn' := Lib.hid hn'
    rw [← hn'] at T2 ⊢
    clear hn'
    generalize l.length = n at *
    go_enter Try.func12, Try.ntmps12
    go_upto_region 3 with fail
    generalize w.alloc (.cells #[.bool false, .slice ka m kc, .slice ra rm rc] 31) = w0 at *
    obtain ⟨x1, x2⟩ := X0.out
    have F := Lib.hid (fun (W : World) (hW : w0.grownBy W none) => And.intro (hW.cell x1 (by simp)) (hW.cell x2 (by simp)))
    have C0 := Lib.hid (grown_drewT (grown_reflT w0 none))
    go_cut [6, 7] (fun s6 s7 wx => ∃ q a' cap', s6 = .pointer q ∧ s7 = .slice a' n' cap' ∧ Hid ((n' ≤ cap' ∧ TrAt S wx t' q ∧ PsS S2 wx a' l') ∧ w0.grownBy wx none))
    case first =>
      go_region_held3 (fun W' => W'.cell? ⟨w.heap.size, 1, none⟩ = some (.slice ka m kc) ∧ W'.cell? ⟨w.heap.size, 2, none⟩ = some (.slice ra rm rc)) (first | exact F.out _ Gb.out | exact F.out _ Ga.out | exact F.out _ C0.out) (first
        | (go_at_call 27; (with_reducible refine (T1.out _ (by first | exact G0.out.trans C0.out | exact G0.out.trans Gb.out)).mono ?_); rintro e w2 ⟨⟨q, rfl, hq⟩, hg2⟩; (first | (have Ga := Lib.hid (Gb.out.trans hg2)) | (have Ga := Lib.hid (C0.out.trans hg2))); have Ha := Lib.hid (And.intro hq hg2); clear hq hg2)
        | (go_at_call 34; (with_reducible refine (T2.out _ (by first | exact G0.out.trans C0.out | exact G0.out.trans Ga.out)).mono ?_); rintro e w3 ⟨⟨a', cap', rfl, hc', hp'⟩, hg3⟩; (first | (have Gb := Lib.hid (Ga.out.trans hg3)) | (have Gb := Lib.hid (C0.out.trans hg3))); have Hb := Lib.hid (And.intro hc' (And.intro hp' hg3)); clear hc' hp' hg3))
      all_goals
        go_wp2_with fail
        go_meet
        first
        | exact ⟨q, a', cap', rfl, rfl, Lib.hid ⟨⟨Hb.out.1, Ha.out.1.keep (.of Hb.out.2.2), Hb.out.2.1⟩, Gb.out⟩⟩
        | exact ⟨q, a', cap', rfl, rfl, Lib.hid ⟨⟨Hb.out.1, Ha.out.1, Hb.out.2.1.keep (.of Ha.out.2)⟩, Ga.out⟩⟩
    case rest =>
    obtain ⟨q, a', cap', rfl, rfl, I⟩ := hcut
    go_wp2_with fail
    go_ret2
    exact ⟨⟨q, a', cap', rfl, I.out.1⟩, G0.out.trans I.out.2⟩
end Go.Proofs.Ytlmoefiajioeoaa
