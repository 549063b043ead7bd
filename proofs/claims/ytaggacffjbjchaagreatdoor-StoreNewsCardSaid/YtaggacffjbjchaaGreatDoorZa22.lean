/- The document's SameChanges and Same, at changes with their tables' names. The document's Rows; Tells; Do. The document's Same, at commits. -/
import Derived.Test.YtaggacffjbjchaaGreatDoorZa21
import Derived.Test.YtaggacffjbjchaaGreatDoorZa18
namespace Go.Proofs.YtaggacffjbjchaaGreatDoor
open Go.RowKit

theorem cg_mem {l : List Cg} {i : Nat} (hi : i < l.length) : l.getD i default ∈ l := by simp [List.getD, hi]
set_option maxRecDepth 100000 in
set_option maxHeartbeats 12800000 in
theorem sameCg_any (S S' : Nat → Prop) (a a' : Ptr) (cap cap' : Nat) (l l' : List Cg) (w : World) (h : CgS S w a l) (h' : CgS S' w a' l') (hc : l.length ≤ cap) (hc' : l'.length ≤ cap') (he : l.map Cg.p = l'.map Cg.p) :
    Calls Tryz.prog 48 #[.slice a l.length cap, .slice a' l'.length cap'] w fun e w' => e = .returned (.bool true) ∧ w.grownBy w' none := by
  have hlen : l'.length = l.length := by have := congrArg List.length he; simpa using this.symm
  have hp : ∀ i, i < l.length → (l.getD i default).t = (l'.getD i default).t ∧ (l.getD i default).o.l = (l'.getD i default).o.l ∧ (l.getD i default).n.l = (l'.getD i default).n.l := fun i hi => by
    have := congrArg (fun x => x[i]?) he
    have e : Cg.p l[i] = Cg.p l'[i] := by simpa [hi, show i < l'.length by omega] using this
    simp only [Cg.p, Prod.mk.injEq] at e
    simpa [List.getD, hi, show i < l'.length by omega] using e
  have HS := Lib.hid (fun i (hi : i < l.length) W (hW : w.grownBy W none) => show (Calls Tryz.prog 27 #[(l.getD i default).o.v, (l'.getD i default).o.v] W fun e w' => e = .returned (.bool true) ∧ W.grownBy w' none) ∧ (Calls Tryz.prog 27 #[(l.getD i default).n.v, (l'.getD i default).n.v] W fun e w' => e = .returned (.bool true) ∧ W.grownBy w' none) by
    have m := (h.keep (.of hW)).2.1 (l.getD i default) (cg_mem hi)
    have m' := (h'.keep (.of hW)).2.1 (l'.getD i default) (cg_mem (by omega))
    have e1 : (rowsOrd (l.getD i default).o.l (l'.getD i default).o.l == 0) = true := by rw [(hp i hi).2.1]; simp [(ro_zero _ _).2 rfl]
    have e2 : (rowsOrd (l.getD i default).n.l (l'.getD i default).n.l == 0) = true := by rw [(hp i hi).2.2]; simp [(ro_zero _ _).2 rfl]
    exact ⟨(refSame_any _ _ _ _ _ _ W m.1.row m'.1.row).mono fun e w' h => ⟨by rw [h.1, e1], grown_belowT h.2 none⟩, (refSame_any _ _ _ _ _ _ W m.2.row m'.2.row).mono fun e w' h => ⟨by rw [h.1, e2], grown_belowT h.2 none⟩⟩)
  have H := Lib.hid (And.intro h h')
  have HT := Lib.hid (fun i hi => (hp i hi).1)
  have hl := h.1
  rw [hlen] at hc' ⊢
  obtain ⟨n, hn⟩ : ∃ n, n = l.length := ⟨_, rfl⟩
  have Hn := Lib.hid (And.intro hn hlen)
  rw [← hn] at hl hc hc' HS HT ⊢
  clear h h' he hn hlen hp
  go_enter Tryz.func48, Tryz.ntmps48
  go_wp2_with fail
  go_loopw [13] (fun i wr => ∃ (j : Nat), i = .int .i64 j ∧ j ≤ n ∧ Hid (w.grownBy wr none)) (fun i _ => n - (intOf i).toNat)
  case atStart => exact ⟨0, rfl, by omega, Lib.hid (grown_reflT _ _)⟩
  case round =>
    obtain ⟨j, rfl, hj, K⟩ := hrel
    by_cases hlt : j < n
    · obtain ⟨b, off, rfl, _, c0, c1, c2⟩ := (H.out.1.keep (.of K.out)).at (i := j) (by rw [← Hn.out.1]; exact hlt)
      obtain ⟨b', off', rfl, _, d0, d1, d2⟩ := (H.out.2.keep (.of K.out)).at (i := j) (by rw [Hn.out.2, ← Hn.out.1]; exact hlt)
      have HS1 := Lib.hid (fun W hW => (HS.out j hlt W (K.out.trans hW)).1)
      have HS2 := Lib.hid (fun W hW => (HS.out j hlt W (K.out.trans hW)).2)
      rw [← HT.out j hlt] at d0
      generalize (l.getD j default) = x at *
      generalize (l'.getD j default) = y at *
      obtain ⟨xt, ⟨oa, oc, ol⟩, ⟨na, nc, nl⟩⟩ := x
      obtain ⟨yt, ⟨oa', oc', ol'⟩, ⟨na', nc', nl'⟩⟩ := y
      simp only [Rw.v] at c0 c1 c2 d0 d1 d2 HS1 HS2
      have i1 : (j : Int) ≤ cap := by omega
      have i2 : (j : Int) ≤ cap' := by omega
      generalize ol.length = q1 at *
      generalize nl.length = q2 at *
      generalize ol'.length = q3 at *
      generalize nl'.length = q4 at *
      have C0 := Lib.hid (grown_drewT (grown_reflT wr none))
      have F := Lib.hid (fun (W : World) (hW : wr.grownBy W none) => show (W.cell? ⟨b, off + j * 3, none⟩ = some (.string xt) ∧ W.cell? ⟨b, off + j * 3 + 1, none⟩ = some (.slice oa q1 oc) ∧ W.cell? ⟨b, off + j * 3 + 2, none⟩ = some (.slice na q2 nc)) ∧ W.cell? ⟨b', off' + j * 3, none⟩ = some (.string xt) ∧ W.cell? ⟨b', off' + j * 3 + 1, none⟩ = some (.slice oa' q3 oc') ∧ W.cell? ⟨b', off' + j * 3 + 2, none⟩ = some (.slice na' q4 nc') from ⟨⟨hW.cell c0 (by simp), hW.cell c1 (by simp), hW.cell c2 (by simp)⟩, hW.cell d0 (by simp), hW.cell d1 (by simp), hW.cell d2 (by simp)⟩)
      go_wp2_with fail
      go_region_held3 (fun W => (W.cell? ⟨b, off + j * 3, none⟩ = some (.string xt) ∧ W.cell? ⟨b, off + j * 3 + 1, none⟩ = some (.slice oa q1 oc) ∧ W.cell? ⟨b, off + j * 3 + 2, none⟩ = some (.slice na q2 nc)) ∧ W.cell? ⟨b', off' + j * 3, none⟩ = some (.string xt) ∧ W.cell? ⟨b', off' + j * 3 + 1, none⟩ = some (.slice oa' q3 oc') ∧ W.cell? ⟨b', off' + j * 3 + 2, none⟩ = some (.slice na' q4 nc')) (first | exact F.out _ G3.out | exact F.out _ G2.out | exact F.out _ C0.out) (first
        | (go_at_call 27; (with_reducible refine (HS1.out wr.drew C0.out).mono ?_); rintro e w2 ⟨rfl, hg2⟩; have G2 := Lib.hid (C0.out.trans hg2); clear hg2)
        | (go_at_call 27; (with_reducible refine (HS2.out w2 G2.out).mono ?_); rintro e w3 ⟨rfl, hg3⟩; have G3 := Lib.hid (G2.out.trans hg3); clear hg3))
      all_goals
        go_wp2_with fail
        go_roundw
        case rel => exact ⟨j + 1, by go_num, by omega, Lib.hid (K.out.trans G3.out)⟩
        case measure => simp [intOf]; omega
    · obtain rfl : j = n := by omega
      go_wp2_with fail
      go_ret
      exact ⟨rfl, K.out⟩
end Go.Proofs.YtaggacffjbjchaaGreatDoor
namespace Go.Proofs.YtaggacffjbjchaaGreatDoor
open Go.RowKit

theorem fromP_nil (l : List Pw) : fromP [] l = l.map Pw.r := by
  unfold fromP
  rw [List.filter_eq_self.2]
  intro x _
  have : ¬ rowsOrd x.k.l [] < 0 := by
    cases x.k.l with
    | nil => simp [rowsOrd]
    | cons a l => simp [rowsOrd]
  simp [this]
set_option maxRecDepth 100000 in
set_option maxHeartbeats 3200000 in
theorem refRowsP_any (S : Nat → Prop) (a : Ptr) (cap : Nat) (l : List Pw) (w : World) (h : PsS S w a l) (hcap : l.length ≤ cap) (hlg : ∀ x ∈ l, x.k.l.all Vl.good = true) :
    Calls Tryz.prog 28 #[.slice a l.length cap] w fun e w' => (∃ ao co, e = .returned (.slice ao l.length co) ∧ l.length ≤ co ∧ RsAt w' ao (l.map Pw.r)) ∧ w.grownBy w' none := by
  have HF := Lib.hid (refFrom_any S a none cap 0 l [] (l.length : Nat) w h hcap ⟨by simp, by simp, .inl rfl⟩ rfl hlg)
  have e : (fromP [] l).take ((l.length : Nat) : Int).toNat = l.map Pw.r := by
    rw [fromP_nil, List.take_of_length_le (by rw [List.length_map, Int.toNat_natCast]; exact Nat.le_refl _)]
  rw [e] at HF
  have HP := Lib.hid h
  have hlen := h.1
  simp only [List.length_nil] at HF
  clear h e hlg
  obtain ⟨n, hn⟩ : ∃ n, n = l.length := ⟨_, rfl⟩
  have Hn := Lib.hid hn
  rw [← hn] at HF hcap hlen ⊢
  clear hn
  go_enter Tryz.func28, Tryz.ntmps28
  go_wp2_with fail
  refine HF.out.mono ?_
  rintro e w1 ⟨⟨v, rfl, ho⟩, hg⟩
  have G := Lib.hid hg
  obtain ⟨ao, co, rfl, hco, hrs⟩ := own_rs (S := S) ho (by rw [List.length_map, ← Hn.out]; omega) (fun x hx => by
    rw [List.mem_map] at hx
    obtain ⟨y, hy, rfl⟩ := hx
    exact (HP.out.2.1 y hy).2.keep (.of hg))
  have hl2 : (l.map Pw.r).length = n := by rw [List.length_map, Hn.out]
  rw [hl2] at hco ⊢
  have D := Lib.hid (And.intro hco hrs)
  clear ho hg hrs hco hl2
  go_wp2_with fail
  go_ret
  exact ⟨⟨ao, co, rfl, D.out.1, D.out.2⟩, G.out⟩
end Go.Proofs.YtaggacffjbjchaaGreatDoor
namespace Go.Proofs.YtaggacffjbjchaaGreatDoor
open Go.RowKit

set_option maxRecDepth 100000 in
set_option maxHeartbeats 12800000 in
theorem sameCm_any (S S' : Nat → Prop) (a a' : Ptr) (cap cap' : Nat) (l l' : List Cm) (w : World) (h : CmS S w a l) (h' : CmS S' w a' l') (hc : l.length ≤ cap) (hc' : l'.length ≤ cap') (he : l.map Cm.p = l'.map Cm.p) :
    Calls Tryz.prog 23 #[.slice a l.length cap, .slice a' l'.length cap'] w fun e w' => e = .returned (.bool true) ∧ w.grownBy w' none := by
  have hlen : l'.length = l.length := by have := congrArg List.length he; simpa using this.symm
  have hp : ∀ i, i < l.length → (l.getD i default).v = (l'.getD i default).v ∧ (l.getD i default).l.map Cg.p = (l'.getD i default).l.map Cg.p := fun i hi => by
    have := congrArg (fun x => x[i]?) he
    have e : Cm.p l[i] = Cm.p l'[i] := by simpa [hi, show i < l'.length by omega] using this
    simp only [Cm.p, Prod.mk.injEq] at e
    simpa [List.getD, hi, show i < l'.length by omega] using e
  have HS := Lib.hid (fun i (hi : i < l.length) W (hW : w.grownBy W none) => show (Calls Tryz.prog 48 #[.slice (l.getD i default).a (l.getD i default).l.length (l.getD i default).cap, .slice (l'.getD i default).a (l'.getD i default).l.length (l'.getD i default).cap] W fun e w' => e = .returned (.bool true) ∧ W.grownBy w' none) by
    have m := (h.keep (.of hW)).2.1 (l.getD i default) (cm_mem hi)
    have m' := (h'.keep (.of hW)).2.1 (l'.getD i default) (cm_mem (by omega))
    exact sameCg_any S S' _ _ _ _ _ _ W m.1 m'.1 m.2 m'.2 (hp i hi).2)
  have H := Lib.hid (And.intro h h')
  have HT := Lib.hid (fun i hi => (hp i hi).1)
  have hl := h.1
  rw [hlen] at hc' ⊢
  obtain ⟨n, hn⟩ : ∃ n, n = l.length := ⟨_, rfl⟩
  have Hn := Lib.hid (And.intro hn hlen)
  rw [← hn] at hl hc hc' HS HT ⊢
  clear h h' he hn hlen hp
  go_enter Tryz.func23, Tryz.ntmps23
  go_wp2_with fail
  go_loopw [13] (fun i wr => ∃ (j : Nat), i = .int .i64 j ∧ j ≤ n ∧ Hid (w.grownBy wr none)) (fun i _ => n - (intOf i).toNat)
  case atStart => exact ⟨0, rfl, by omega, Lib.hid (grown_reflT _ _)⟩
  case round =>
    obtain ⟨j, rfl, hj, K⟩ := hrel
    by_cases hlt : j < n
    · obtain ⟨b, off, rfl, _, c0, c1⟩ := (H.out.1.keep (.of K.out)).at (i := j) (by rw [← Hn.out.1]; exact hlt)
      obtain ⟨b', off', rfl, _, d0, d1⟩ := (H.out.2.keep (.of K.out)).at (i := j) (by rw [Hn.out.2, ← Hn.out.1]; exact hlt)
      have HS1 := Lib.hid (fun W hW => HS.out j hlt W (K.out.trans hW))
      rw [← HT.out j hlt] at d0
      generalize (l.getD j default) = x at *
      generalize (l'.getD j default) = y at *
      obtain ⟨xv, xa, xc, xl⟩ := x
      obtain ⟨yv, ya, yc, yl⟩ := y
      simp only at c0 c1 d0 d1 HS1
      have i1 : (j : Int) ≤ cap := by omega
      have i2 : (j : Int) ≤ cap' := by omega
      generalize xl.length = q1 at *
      generalize yl.length = q2 at *
      have C0 := Lib.hid (grown_drewT (grown_reflT wr none))
      go_wp2_with fail
      have F := Lib.hid (fun (W : World) (hW : wr.grownBy W none) => show (W.cell? ⟨b, off + j * 2, none⟩ = some (.int .i64 xv) ∧ W.cell? ⟨b, off + j * 2 + 1, none⟩ = some (.slice xa q1 xc)) ∧ W.cell? ⟨b', off' + j * 2, none⟩ = some (.int .i64 xv) ∧ W.cell? ⟨b', off' + j * 2 + 1, none⟩ = some (.slice ya q2 yc) from ⟨⟨hW.cell c0 (by simp), hW.cell c1 (by simp)⟩, hW.cell d0 (by simp), hW.cell d1 (by simp)⟩)
      go_region_held3 (fun W => (W.cell? ⟨b, off + j * 2, none⟩ = some (.int .i64 xv) ∧ W.cell? ⟨b, off + j * 2 + 1, none⟩ = some (.slice xa q1 xc)) ∧ W.cell? ⟨b', off' + j * 2, none⟩ = some (.int .i64 xv) ∧ W.cell? ⟨b', off' + j * 2 + 1, none⟩ = some (.slice ya q2 yc)) (first | exact F.out _ G2.out | exact F.out _ C0.out) (first
        | (go_at_call 48; (with_reducible refine (HS1.out wr.drew C0.out).mono ?_); rintro e w2 ⟨rfl, hg2⟩; have G2 := Lib.hid (C0.out.trans hg2); clear hg2))
      all_goals
        go_wp2_with fail
        go_roundw
        case rel => exact ⟨j + 1, by go_num, by omega, Lib.hid (K.out.trans G2.out)⟩
        case measure => simp [intOf]; omega
    · obtain rfl : j = n := by omega
      go_wp2_with fail
      go_ret
      exact ⟨rfl, K.out⟩
end Go.Proofs.YtaggacffjbjchaaGreatDoor
