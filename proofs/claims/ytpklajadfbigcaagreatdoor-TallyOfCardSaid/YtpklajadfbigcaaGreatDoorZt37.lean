import Derived.Test.YtpklajadfbigcaaGreatDoorZt19
import Derived.Test.YtpklajadfbigcaaGreatDoorZt36
import Derived.Test.YtpklajadfbigcaaGreatDoorZt21
import Derived.Deep.RegionHeld
set_option linter.unusedSimpArgs false
set_option linter.unusedVariables false
namespace Go.Proofs.YtpklajadfbigcaaGreatDoor
open Go.RowKit
set_option linter.unusedVariables false
set_option linter.unusedSimpArgs false in
set_option maxRecDepth 100000 in
set_option maxHeartbeats 6400000 in
theorem refRow6_all (a ra : Option Addr) (cap rcap : Nat) (l : List Cl) (r : List Vv) (w : World) (h : ColsAt w.heap.size w a l) (hr : VvAt w.heap.size w ra r) (hcap : l.length ≤ cap) (hrc : r.length ≤ rcap) :
    Calls Tryz.prog 22 #[.slice a l.length cap, .slice ra r.length rcap] w fun e w' => (∃ b, e = .returned (.bool b) ∧ (b = true ↔ Fits l r)) ∧ w.grownBy w' none := by
  have H := Lib.hid h
  have HR := Lib.hid hr
  have hlen := h.1
  have hlen2 := hr.1
  obtain ⟨F, hF⟩ : ∃ F : Prop, F = Fits l r := ⟨_, rfl⟩
  have HF : Hid (F → ∀ i, i < l.length → holdsB (l.getD i default) (r.getD i default) = true) := Lib.hid (fun h => by rw [hF] at h; exact h.2)
  have HL : Hid (F → r.length = l.length) := Lib.hid (fun h => by rw [hF] at h; exact h.1)
  have HI : Hid (r.length = l.length → (∀ i, i < l.length → holdsB (l.getD i default) (r.getD i default) = true) → F) := Lib.hid (fun h1 h2 => by rw [hF]; exact ⟨h1, h2⟩)
  rw [← hF]
  obtain ⟨n, hn⟩ : ∃ n, n = l.length := ⟨_, rfl⟩
  obtain ⟨rn, hrn⟩ : ∃ rn, rn = r.length := ⟨_, rfl⟩
  have Hn := Lib.hid hn
  have Hrn := Lib.hid hrn
  rw [← hn] at hlen hcap HF HI HL ⊢
  rw [← hrn] at hlen2 hrc HI HL ⊢
  clear h hr hn hrn hF
  go_enter Tryz.func22, Tryz.ntmps22
  by_cases he : rn = n
  · have HE := Lib.hid he
    subst he
    have HI2 := Lib.hid (HI.out (by omega))
    clear HL HI
    go_wp2_with fail
    go_loopw [13] (fun i wr => ∃ (k : Nat), i = .int .i64 k ∧ k ≤ rn ∧ Hid (w.grownBy wr none) ∧ Hid (∀ j, j < k → holdsB (l.getD j default) (r.getD j default) = true)) (fun i _ => rn - (intOf i).toNat)
    case atStart => exact ⟨0, rfl, by omega, Lib.hid (grown_refl6 _ _), Lib.hid (fun j hj => by omega)⟩
    case round =>
      obtain ⟨k, rfl, hk, KR, HJ⟩ := hrel
      by_cases hlt : k < rn
      · obtain ⟨b, off, rfl, _, c0, c1, c2⟩ := (H.out.keep KR.out (by simp)).at (i := k) (by rw [← Hn.out]; exact hlt)
        obtain ⟨b2, off2, rfl, hb2, v0, v1, v2⟩ := (HR.out.keep KR.out (by simp)).at (i := k) (by rw [← Hrn.out]; exact hlt)
        have HX : Hid (F → holdsB (l.getD k default) (r.getD k default) = true) := Lib.hid (fun h => HF.out h k hlt)
        have HJ3 : Hid (holdsB (l.getD k default) (r.getD k default) = true → ∀ j, j < k + 1 → holdsB (l.getD j default) (r.getD j default) = true) := Lib.hid (fun hx j hj => by
          by_cases e : j = k
          · rw [e]; exact hx
          · exact HJ.out j (by omega))
        generalize l.getD k default = x at *
        generalize r.getD k default = y at *
        obtain ⟨xn, xk, xb⟩ := x
        obtain ⟨yk, yn, ys⟩ := y
        simp only at c0 c1 c2 v0 v1 v2
        have HG := Lib.hid (fun W => refGood_any yk yn ys W)
        have j0 : (0 : Int) ≤ k := by omega
        have j1 : (k : Int) ≤ cap := by omega
        have j2 : (k : Int) ≤ rcap := by omega
        have j3 : (k : Int) < rn := by omega
        have FS := Lib.hid (fun W (hW : wr.grownBy W none) => show (W.cell? ⟨b2, off2 + k * 3, none⟩ = some (.int .i64 yk) ∧ W.cell? ⟨b2, off2 + k * 3 + 1, none⟩ = some (.int .i64 yn) ∧ W.cell? ⟨b2, off2 + k * 3 + 2, none⟩ = some (.string ys)) ∧ W.cell? ⟨b, off + k * 3 + 1, none⟩ = some (.int .i64 xk) ∧ W.cell? ⟨b, off + k * 3 + 2, none⟩ = some (.bool xb) from ⟨⟨hW.cell v0 (by simp), hW.cell v1 (by simp), hW.cell v2 (by simp)⟩, hW.cell c1 (by simp), hW.cell c2 (by simp)⟩)
        clear c0 c1 c2 v0 v1 v2 HF HI2 HJ
        go_upto_region 6 with fail
        obtain ⟨gd, hgd⟩ : ∃ gd, goodB yk yn ys = gd := ⟨_, rfl⟩
        cases gd with
        | false =>
          rw [hgd] at HG
          have HNo : Hid (¬ holdsB ⟨xn, xk, xb⟩ ⟨yk, yn, ys⟩ = true) := Lib.hid (fun h => by have := (holdsB_two h).1; simp only at this; rw [hgd] at this; cases this)
          clear hgd HJ3
          refine wp_region_held_drew (S := (fun W => Hid ((W.cell? ⟨b2, off2 + k * 3, none⟩ = some (.int .i64 yk) ∧ W.cell? ⟨b2, off2 + k * 3 + 1, none⟩ = some (.int .i64 yn) ∧ W.cell? ⟨b2, off2 + k * 3 + 2, none⟩ = some (.string ys)) ∧ W.cell? ⟨b, off + k * 3 + 1, none⟩ = some (.int .i64 xk) ∧ W.cell? ⟨b, off + k * 3 + 2, none⟩ = some (.bool xb)))) (by kernel_rfl) (Lib.hid (FS.out _ (grown_drew6 (grown_refl6 wr none)))) (fun hHeld => ?_)
          refine TKB (i := 0) (v := ?vaz) rfl ?yaz ?raz
          case yaz => (intro w hSw; (try dsimp only at hSw); go_simp; try with_reducible rfl)
          simp only [Act.put, List.getElem_toArray, List.getElem_cons_zero, List.size_toArray, List.length_cons, List.length_nil, Nat.reduceAdd, Array.replicate, List.replicate, List.setIfInBounds_toArray, List.set_cons_zero, List.set_cons_succ]
          refine TKB (i := 1) (v := ?vbz) rfl ?ybz ?rbz
          case ybz => (intro w hSw; (try dsimp only at hSw); go_simp; try with_reducible rfl)
          simp only [Act.put, List.getElem_toArray, List.getElem_cons_succ, List.getElem_cons_zero, List.setIfInBounds_toArray, List.set_cons_zero, List.set_cons_succ]
          refine TKB (i := 2) (v := ?vcz) rfl ?ycz ?rcz
          case ycz => (intro w hSw; (try dsimp only at hSw); go_simp; (try rw [if_pos ⟨j0, j3⟩]); try with_reducible rfl)
          simp only [Act.put, List.getElem_toArray, List.getElem_cons_succ, List.getElem_cons_zero, List.setIfInBounds_toArray, List.set_cons_zero, List.set_cons_succ]
          refine TKB (i := 3) (v := ?vdz) rfl ?ydz ?rdz
          case ydz => (intro w hSw; obtain ⟨⟨q0, q1, q2⟩, q3, q4⟩ := hSw.out; clear hSw; go_simp; try with_reducible rfl)
          simp only [Act.put, List.getElem_toArray, List.getElem_cons_succ, List.getElem_cons_zero, List.setIfInBounds_toArray, List.set_cons_zero, List.set_cons_succ]
          refine RD1 (i := 4) rfl (fun K' hK => ?_)
          go_simp
          go_at_call 42
          refine (HG.out _).mono ?_
          rintro e w4 ⟨rfl, hg4⟩
          have K4 := Lib.hid ((grown_drew6 (grown_refl6 wr none)).trans (grown_below6 hg4 none))
          clear hg4
          refine hK.out _ _ (Lib.hid (FS.out _ K4.out)) (fun hHeld => ?_)
          clear hK K'
          simp only [List.setIfInBounds_toArray, List.set_cons_zero, List.set_cons_succ]
          refine TKB (i := 5) (v := ?vez) rfl ?yez ?rez
          case yez => (intro w hSw; (try dsimp only at hSw); go_simp; try with_reducible rfl)
          simp only [Act.put, List.getElem_toArray, List.getElem_cons_succ, List.getElem_cons_zero, List.setIfInBounds_toArray, List.set_cons_zero, List.set_cons_succ]
          refine TKB (i := 6) (v := ?vfz) rfl ?yfz ?rfz
          case yfz => (intro w hSw; (try dsimp only at hSw); go_simp; try with_reducible rfl)
          simp only [Act.put, List.getElem_toArray, List.getElem_cons_succ, List.getElem_cons_zero, List.setIfInBounds_toArray, List.set_cons_zero, List.set_cons_succ]
          refine TKU (i := 7) rfl ?_
          simp only [Act.put, List.getElem_toArray, List.getElem_cons_succ, List.getElem_cons_zero, List.setIfInBounds_toArray, List.set_cons_zero, List.set_cons_succ]
          refine TKU (i := 8) rfl ?_
          simp only [Act.put, List.getElem_toArray, List.getElem_cons_succ, List.getElem_cons_zero, List.setIfInBounds_toArray, List.set_cons_zero, List.set_cons_succ]
          refine TKU (i := 9) rfl ?_
          simp only [Act.put, List.getElem_toArray, List.getElem_cons_succ, List.getElem_cons_zero, List.setIfInBounds_toArray, List.set_cons_zero, List.set_cons_succ]
          refine TKU (i := 10) rfl ?_
          simp only [Act.put, List.getElem_toArray, List.getElem_cons_succ, List.getElem_cons_zero, List.setIfInBounds_toArray, List.set_cons_zero, List.set_cons_succ]
          refine TKU (i := 11) rfl ?_
          simp only [Act.put, List.getElem_toArray, List.getElem_cons_succ, List.getElem_cons_zero, List.setIfInBounds_toArray, List.set_cons_zero, List.set_cons_succ]
          refine TKU (i := 12) rfl ?_
          simp only [Act.put, List.getElem_toArray, List.getElem_cons_succ, List.getElem_cons_zero, List.setIfInBounds_toArray, List.set_cons_zero, List.set_cons_succ]
          refine TKU (i := 13) rfl ?_
          simp only [Act.put, List.getElem_toArray, List.getElem_cons_succ, List.getElem_cons_zero, List.setIfInBounds_toArray, List.set_cons_zero, List.set_cons_succ]
          refine TKU (i := 14) rfl ?_
          simp only [Act.put, List.getElem_toArray, List.getElem_cons_succ, List.getElem_cons_zero, List.setIfInBounds_toArray, List.set_cons_zero, List.set_cons_succ]
          refine TKU (i := 15) rfl ?_
          simp only [Act.put, List.getElem_toArray, List.getElem_cons_succ, List.getElem_cons_zero, List.setIfInBounds_toArray, List.set_cons_zero, List.set_cons_succ]
          refine TKU (i := 16) rfl ?_
          simp only [Act.put, List.getElem_toArray, List.getElem_cons_succ, List.getElem_cons_zero, List.setIfInBounds_toArray, List.set_cons_zero, List.set_cons_succ]
          refine TKU (i := 17) rfl ?_
          simp only [Act.put, List.getElem_toArray, List.getElem_cons_succ, List.getElem_cons_zero, List.setIfInBounds_toArray, List.set_cons_zero, List.set_cons_succ]
          refine TKU (i := 18) rfl ?_
          simp only [Act.put, List.getElem_toArray, List.getElem_cons_succ, List.getElem_cons_zero, List.setIfInBounds_toArray, List.set_cons_zero, List.set_cons_succ]
          refine TKU (i := 19) rfl ?_
          simp only [Act.put, List.getElem_toArray, List.getElem_cons_succ, List.getElem_cons_zero, List.setIfInBounds_toArray, List.set_cons_zero, List.set_cons_succ]
          refine TKU (i := 20) rfl ?_
          simp only [Act.put, List.getElem_toArray, List.getElem_cons_succ, List.getElem_cons_zero, List.setIfInBounds_toArray, List.set_cons_zero, List.set_cons_succ]
          refine TKU (i := 21) rfl ?_
          simp only [Act.put, List.getElem_toArray, List.getElem_cons_succ, List.getElem_cons_zero, List.setIfInBounds_toArray, List.set_cons_zero, List.set_cons_succ]
          refine TKU (i := 22) rfl ?_
          simp only [Act.put, List.getElem_toArray, List.getElem_cons_succ, List.getElem_cons_zero, List.setIfInBounds_toArray, List.set_cons_zero, List.set_cons_succ]
          refine TKU (i := 23) rfl ?_
          simp only [Act.put, List.getElem_toArray, List.getElem_cons_succ, List.getElem_cons_zero, List.setIfInBounds_toArray, List.set_cons_zero, List.set_cons_succ]
          refine TKU (i := 24) rfl ?_
          simp only [Act.put, List.getElem_toArray, List.getElem_cons_succ, List.getElem_cons_zero, List.setIfInBounds_toArray, List.set_cons_zero, List.set_cons_succ]
          refine TKU (i := 25) rfl ?_
          simp only [Act.put, List.getElem_toArray, List.getElem_cons_succ, List.getElem_cons_zero, List.setIfInBounds_toArray, List.set_cons_zero, List.set_cons_succ]
          refine TKU (i := 26) rfl ?_
          simp only [Act.put, List.getElem_toArray, List.getElem_cons_succ, List.getElem_cons_zero, List.setIfInBounds_toArray, List.set_cons_zero, List.set_cons_succ]
          refine TKU (i := 27) rfl ?_
          simp only [Act.put, List.getElem_toArray, List.getElem_cons_succ, List.getElem_cons_zero, List.setIfInBounds_toArray, List.set_cons_zero, List.set_cons_succ]
          refine TKU (i := 28) rfl ?_
          simp only [Act.put, List.getElem_toArray, List.getElem_cons_succ, List.getElem_cons_zero, List.setIfInBounds_toArray, List.set_cons_zero, List.set_cons_succ]
          refine TKU (i := 29) rfl ?_
          simp only [Act.put, List.getElem_toArray, List.getElem_cons_succ, List.getElem_cons_zero, List.setIfInBounds_toArray, List.set_cons_zero, List.set_cons_succ]
          refine TKU (i := 30) rfl ?_
          simp only [Act.put, List.getElem_toArray, List.getElem_cons_succ, List.getElem_cons_zero, List.setIfInBounds_toArray, List.set_cons_zero, List.set_cons_succ]
          refine TKU (i := 31) rfl ?_
          simp only [Act.put, List.getElem_toArray, List.getElem_cons_succ, List.getElem_cons_zero, List.setIfInBounds_toArray, List.set_cons_zero, List.set_cons_succ]
          refine TKU (i := 32) rfl ?_
          simp only [Act.put, List.getElem_toArray, List.getElem_cons_succ, List.getElem_cons_zero, List.setIfInBounds_toArray, List.set_cons_zero, List.set_cons_succ]
          refine TKU (i := 33) rfl ?_
          simp only [Act.put, List.getElem_toArray, List.getElem_cons_succ, List.getElem_cons_zero, List.setIfInBounds_toArray, List.set_cons_zero, List.set_cons_succ]
          refine TKB (i := 34) (v := ?vgz) rfl ?ygz ?rgz
          case ygz => (intro w hSw; (try dsimp only at hSw); go_simp; try with_reducible rfl)
          simp only [Act.put, List.getElem_toArray, List.getElem_cons_succ, List.getElem_cons_zero, List.setIfInBounds_toArray, List.set_cons_zero, List.set_cons_succ]
          refine wpAnyH_done (by kernel_rfl) ?_ _
          go_wp2_with fail
          go_ret
          exact ⟨⟨false, rfl, ⟨fun h => (by cases h), fun h => absurd (HX.out h) HNo.out⟩⟩, KR.out.trans K4.out⟩
        | true =>
          rw [hgd] at HG
          obtain ⟨pd, hp⟩ : ∃ pd, (yk != xk) = pd := ⟨_, rfl⟩
          cases pd with
          | false =>
            have HJ2 := Lib.hid (HJ3.out (by
              unfold holdsB Vv.good
              simp only [Bool.and_eq_true, Bool.or_eq_true, decide_eq_true_eq]
              exact ⟨hgd, .inl (by simpa using hp)⟩))
            clear hgd HJ3 HX
            refine wp_region_held_drew (S := (fun W => Hid ((W.cell? ⟨b2, off2 + k * 3, none⟩ = some (.int .i64 yk) ∧ W.cell? ⟨b2, off2 + k * 3 + 1, none⟩ = some (.int .i64 yn) ∧ W.cell? ⟨b2, off2 + k * 3 + 2, none⟩ = some (.string ys)) ∧ W.cell? ⟨b, off + k * 3 + 1, none⟩ = some (.int .i64 xk) ∧ W.cell? ⟨b, off + k * 3 + 2, none⟩ = some (.bool xb)))) (by kernel_rfl) (Lib.hid (FS.out _ (grown_drew6 (grown_refl6 wr none)))) (fun hHeld => ?_)
            refine TKB (i := 0) (v := ?vhz) rfl ?yhz ?rhz
            case yhz => (intro w hSw; (try dsimp only at hSw); go_simp; try with_reducible rfl)
            simp only [Act.put, List.getElem_toArray, List.getElem_cons_zero, List.size_toArray, List.length_cons, List.length_nil, Nat.reduceAdd, Array.replicate, List.replicate, List.setIfInBounds_toArray, List.set_cons_zero, List.set_cons_succ]
            refine TKB (i := 1) (v := ?viz) rfl ?yiz ?riz
            case yiz => (intro w hSw; (try dsimp only at hSw); go_simp; try with_reducible rfl)
            simp only [Act.put, List.getElem_toArray, List.getElem_cons_succ, List.getElem_cons_zero, List.setIfInBounds_toArray, List.set_cons_zero, List.set_cons_succ]
            refine TKB (i := 2) (v := ?vjz) rfl ?yjz ?rjz
            case yjz => (intro w hSw; (try dsimp only at hSw); go_simp; (try rw [if_pos ⟨j0, j3⟩]); try with_reducible rfl)
            simp only [Act.put, List.getElem_toArray, List.getElem_cons_succ, List.getElem_cons_zero, List.setIfInBounds_toArray, List.set_cons_zero, List.set_cons_succ]
            refine TKB (i := 3) (v := ?vkz) rfl ?ykz ?rkz
            case ykz => (intro w hSw; obtain ⟨⟨q0, q1, q2⟩, q3, q4⟩ := hSw.out; clear hSw; go_simp; try with_reducible rfl)
            simp only [Act.put, List.getElem_toArray, List.getElem_cons_succ, List.getElem_cons_zero, List.setIfInBounds_toArray, List.set_cons_zero, List.set_cons_succ]
            refine RD1 (i := 4) rfl (fun K' hK => ?_)
            go_simp
            go_at_call 42
            refine (HG.out _).mono ?_
            rintro e w4 ⟨rfl, hg4⟩
            have K4 := Lib.hid ((grown_drew6 (grown_refl6 wr none)).trans (grown_below6 hg4 none))
            clear hg4
            refine hK.out _ _ (Lib.hid (FS.out _ K4.out)) (fun hHeld => ?_)
            clear hK K'
            simp only [List.setIfInBounds_toArray, List.set_cons_zero, List.set_cons_succ]
            refine TKB (i := 5) (v := ?vlz) rfl ?ylz ?rlz
            case ylz => (intro w hSw; (try dsimp only at hSw); go_simp; try with_reducible rfl)
            simp only [Act.put, List.getElem_toArray, List.getElem_cons_succ, List.getElem_cons_zero, List.setIfInBounds_toArray, List.set_cons_zero, List.set_cons_succ]
            refine TKB (i := 6) (v := ?vmz) rfl ?ymz ?rmz
            case ymz => (intro w hSw; (try dsimp only at hSw); go_simp; try with_reducible rfl)
            simp only [Act.put, List.getElem_toArray, List.getElem_cons_succ, List.getElem_cons_zero, List.setIfInBounds_toArray, List.set_cons_zero, List.set_cons_succ]
            refine TKB (i := 7) (v := ?vnz) rfl ?ynz ?rnz
            case ynz => (intro w hSw; (try dsimp only at hSw); go_simp; try with_reducible rfl)
            simp only [Act.put, List.getElem_toArray, List.getElem_cons_succ, List.getElem_cons_zero, List.setIfInBounds_toArray, List.set_cons_zero, List.set_cons_succ]
            refine TKB (i := 8) (v := ?voz) rfl ?yoz ?roz
            case yoz => (intro w hSw; (try dsimp only at hSw); go_simp; try with_reducible rfl)
            simp only [Act.put, List.getElem_toArray, List.getElem_cons_succ, List.getElem_cons_zero, List.setIfInBounds_toArray, List.set_cons_zero, List.set_cons_succ]
            refine TKB (i := 9) (v := ?vpz) rfl ?ypz ?rpz
            case ypz => (intro w hSw; (try dsimp only at hSw); go_simp; (try rw [if_pos ⟨j0, j3⟩]); try with_reducible rfl)
            simp only [Act.put, List.getElem_toArray, List.getElem_cons_succ, List.getElem_cons_zero, List.setIfInBounds_toArray, List.set_cons_zero, List.set_cons_succ]
            refine TKB (i := 10) (v := ?vqz) rfl ?yqz ?rqz
            case yqz => (intro w hSw; (try dsimp only at hSw); go_simp; try with_reducible rfl)
            simp only [Act.put, List.getElem_toArray, List.getElem_cons_succ, List.getElem_cons_zero, List.setIfInBounds_toArray, List.set_cons_zero, List.set_cons_succ]
            refine TKB (i := 11) (v := ?vrz) rfl ?yrz ?rrz
            case yrz => (intro w hSw; obtain ⟨⟨q0, q1, q2⟩, q3, q4⟩ := hSw.out; clear hSw; go_simp; try with_reducible rfl)
            simp only [Act.put, List.getElem_toArray, List.getElem_cons_succ, List.getElem_cons_zero, List.setIfInBounds_toArray, List.set_cons_zero, List.set_cons_succ]
            refine TKB (i := 12) (v := ?vsz) rfl ?ysz ?rsz
            case ysz => (intro w hSw; (try dsimp only at hSw); go_simp; try with_reducible rfl)
            simp only [Act.put, List.getElem_toArray, List.getElem_cons_succ, List.getElem_cons_zero, List.setIfInBounds_toArray, List.set_cons_zero, List.set_cons_succ]
            refine TKB (i := 13) (v := ?vtz) rfl ?ytz ?rtz
            case ytz => (intro w hSw; (try dsimp only at hSw); go_simp; try with_reducible rfl)
            simp only [Act.put, List.getElem_toArray, List.getElem_cons_succ, List.getElem_cons_zero, List.setIfInBounds_toArray, List.set_cons_zero, List.set_cons_succ]
            refine TKB (i := 14) (v := ?vuz) rfl ?yuz ?ruz
            case yuz => (intro w hSw; (try dsimp only at hSw); go_simp; (try rw [if_pos ⟨j0, j3⟩]); try with_reducible rfl)
            simp only [Act.put, List.getElem_toArray, List.getElem_cons_succ, List.getElem_cons_zero, List.setIfInBounds_toArray, List.set_cons_zero, List.set_cons_succ]
            refine TKB (i := 15) (v := ?vvz) rfl ?yvz ?rvz
            case yvz => (intro w hSw; (try dsimp only at hSw); go_simp; try with_reducible rfl)
            simp only [Act.put, List.getElem_toArray, List.getElem_cons_succ, List.getElem_cons_zero, List.setIfInBounds_toArray, List.set_cons_zero, List.set_cons_succ]
            refine TKB (i := 16) (v := ?vwz) rfl ?ywz ?rwz
            case ywz => (intro w hSw; obtain ⟨⟨q0, q1, q2⟩, q3, q4⟩ := hSw.out; clear hSw; go_simp; try with_reducible rfl)
            simp only [Act.put, List.getElem_toArray, List.getElem_cons_succ, List.getElem_cons_zero, List.setIfInBounds_toArray, List.set_cons_zero, List.set_cons_succ]
            refine TKB (i := 17) (v := ?vxz) rfl ?yxz ?rxz
            case yxz => (intro w hSw; (try dsimp only at hSw); go_simp; try with_reducible rfl)
            simp only [Act.put, List.getElem_toArray, List.getElem_cons_succ, List.getElem_cons_zero, List.setIfInBounds_toArray, List.set_cons_zero, List.set_cons_succ]
            refine TKB (i := 18) (v := ?vyz) rfl ?yyz ?ryz
            case yyz => (intro w hSw; (try dsimp only at hSw); go_simp; try with_reducible rfl)
            simp only [Act.put, List.getElem_toArray, List.getElem_cons_succ, List.getElem_cons_zero, List.setIfInBounds_toArray, List.set_cons_zero, List.set_cons_succ]
            refine TKU (i := 19) rfl ?_
            simp only [Act.put, List.getElem_toArray, List.getElem_cons_succ, List.getElem_cons_zero, List.setIfInBounds_toArray, List.set_cons_zero, List.set_cons_succ]
            refine TKU (i := 20) rfl ?_
            simp only [Act.put, List.getElem_toArray, List.getElem_cons_succ, List.getElem_cons_zero, List.setIfInBounds_toArray, List.set_cons_zero, List.set_cons_succ]
            refine TKU (i := 21) rfl ?_
            simp only [Act.put, List.getElem_toArray, List.getElem_cons_succ, List.getElem_cons_zero, List.setIfInBounds_toArray, List.set_cons_zero, List.set_cons_succ]
            refine TKU (i := 22) rfl ?_
            simp only [Act.put, List.getElem_toArray, List.getElem_cons_succ, List.getElem_cons_zero, List.setIfInBounds_toArray, List.set_cons_zero, List.set_cons_succ]
            refine TKU (i := 23) rfl ?_
            simp only [Act.put, List.getElem_toArray, List.getElem_cons_succ, List.getElem_cons_zero, List.setIfInBounds_toArray, List.set_cons_zero, List.set_cons_succ]
            refine TKU (i := 24) rfl ?_
            simp only [Act.put, List.getElem_toArray, List.getElem_cons_succ, List.getElem_cons_zero, List.setIfInBounds_toArray, List.set_cons_zero, List.set_cons_succ]
            refine TKU (i := 25) rfl ?_
            simp only [Act.put, List.getElem_toArray, List.getElem_cons_succ, List.getElem_cons_zero, List.setIfInBounds_toArray, List.set_cons_zero, List.set_cons_succ]
            refine TKU (i := 26) rfl ?_
            simp only [Act.put, List.getElem_toArray, List.getElem_cons_succ, List.getElem_cons_zero, List.setIfInBounds_toArray, List.set_cons_zero, List.set_cons_succ]
            refine TKU (i := 27) rfl ?_
            simp only [Act.put, List.getElem_toArray, List.getElem_cons_succ, List.getElem_cons_zero, List.setIfInBounds_toArray, List.set_cons_zero, List.set_cons_succ]
            refine TKU (i := 28) rfl ?_
            simp only [Act.put, List.getElem_toArray, List.getElem_cons_succ, List.getElem_cons_zero, List.setIfInBounds_toArray, List.set_cons_zero, List.set_cons_succ]
            refine TKU (i := 29) rfl ?_
            simp only [Act.put, List.getElem_toArray, List.getElem_cons_succ, List.getElem_cons_zero, List.setIfInBounds_toArray, List.set_cons_zero, List.set_cons_succ]
            refine TKU (i := 30) rfl ?_
            simp only [Act.put, List.getElem_toArray, List.getElem_cons_succ, List.getElem_cons_zero, List.setIfInBounds_toArray, List.set_cons_zero, List.set_cons_succ]
            refine TKU (i := 31) rfl ?_
            simp only [Act.put, List.getElem_toArray, List.getElem_cons_succ, List.getElem_cons_zero, List.setIfInBounds_toArray, List.set_cons_zero, List.set_cons_succ]
            refine TKU (i := 32) rfl ?_
            simp only [Act.put, List.getElem_toArray, List.getElem_cons_succ, List.getElem_cons_zero, List.setIfInBounds_toArray, List.set_cons_zero, List.set_cons_succ]
            refine TKB (i := 33) (v := ?vzz) rfl ?yzz ?rzz
            case yzz => (intro w hSw; (try dsimp only at hSw); go_simp; try with_reducible rfl)
            simp only [Act.put, List.getElem_toArray, List.getElem_cons_succ, List.getElem_cons_zero, List.setIfInBounds_toArray, List.set_cons_zero, List.set_cons_succ]
            refine TKB (i := 34) (v := ?v0z) rfl ?y0z ?r0z
            case y0z => (intro w hSw; (try dsimp only at hSw); go_simp; try with_reducible rfl)
            simp only [Act.put, List.getElem_toArray, List.getElem_cons_succ, List.getElem_cons_zero, List.setIfInBounds_toArray, List.set_cons_zero, List.set_cons_succ]
            refine wpAnyH_done (by kernel_rfl) ?_ _
            go_wp2_with fail
            go_roundw
            case rel => exact ⟨k + 1, by go_num, by omega, Lib.hid (KR.out.trans K4.out), HJ2⟩
            case measure => simp [intOf]; omega
          | true =>
            obtain ⟨qd, hq⟩ : ∃ qd, (yk != 0) = qd := ⟨_, rfl⟩
            cases qd with
            | true =>
              have HNo : Hid (¬ holdsB ⟨xn, xk, xb⟩ ⟨yk, yn, ys⟩ = true) := Lib.hid (fun h => by
                have := (holdsB_two h).2
                simp only at this
                rw [hp, hq] at this
                simp at this)
              clear hgd HJ3
              refine wp_region_held_drew (S := (fun W => Hid ((W.cell? ⟨b2, off2 + k * 3, none⟩ = some (.int .i64 yk) ∧ W.cell? ⟨b2, off2 + k * 3 + 1, none⟩ = some (.int .i64 yn) ∧ W.cell? ⟨b2, off2 + k * 3 + 2, none⟩ = some (.string ys)) ∧ W.cell? ⟨b, off + k * 3 + 1, none⟩ = some (.int .i64 xk) ∧ W.cell? ⟨b, off + k * 3 + 2, none⟩ = some (.bool xb)))) (by kernel_rfl) (Lib.hid (FS.out _ (grown_drew6 (grown_refl6 wr none)))) (fun hHeld => ?_)
              refine TKB (i := 0) (v := ?v1z) rfl ?y1z ?r1z
              case y1z => (intro w hSw; (try dsimp only at hSw); go_simp; try with_reducible rfl)
              simp only [Act.put, List.getElem_toArray, List.getElem_cons_zero, List.size_toArray, List.length_cons, List.length_nil, Nat.reduceAdd, Array.replicate, List.replicate, List.setIfInBounds_toArray, List.set_cons_zero, List.set_cons_succ]
              refine TKB (i := 1) (v := ?v2z) rfl ?y2z ?r2z
              case y2z => (intro w hSw; (try dsimp only at hSw); go_simp; try with_reducible rfl)
              simp only [Act.put, List.getElem_toArray, List.getElem_cons_succ, List.getElem_cons_zero, List.setIfInBounds_toArray, List.set_cons_zero, List.set_cons_succ]
              refine TKB (i := 2) (v := ?v3z) rfl ?y3z ?r3z
              case y3z => (intro w hSw; (try dsimp only at hSw); go_simp; (try rw [if_pos ⟨j0, j3⟩]); try with_reducible rfl)
              simp only [Act.put, List.getElem_toArray, List.getElem_cons_succ, List.getElem_cons_zero, List.setIfInBounds_toArray, List.set_cons_zero, List.set_cons_succ]
              refine TKB (i := 3) (v := ?v4z) rfl ?y4z ?r4z
              case y4z => (intro w hSw; obtain ⟨⟨q0, q1, q2⟩, q3, q4⟩ := hSw.out; clear hSw; go_simp; try with_reducible rfl)
              simp only [Act.put, List.getElem_toArray, List.getElem_cons_succ, List.getElem_cons_zero, List.setIfInBounds_toArray, List.set_cons_zero, List.set_cons_succ]
              refine RD1 (i := 4) rfl (fun K' hK => ?_)
              go_simp
              go_at_call 42
              refine (HG.out _).mono ?_
              rintro e w4 ⟨rfl, hg4⟩
              have K4 := Lib.hid ((grown_drew6 (grown_refl6 wr none)).trans (grown_below6 hg4 none))
              clear hg4
              refine hK.out _ _ (Lib.hid (FS.out _ K4.out)) (fun hHeld => ?_)
              clear hK K'
              simp only [List.setIfInBounds_toArray, List.set_cons_zero, List.set_cons_succ]
              refine TKB (i := 5) (v := ?v5z) rfl ?y5z ?r5z
              case y5z => (intro w hSw; (try dsimp only at hSw); go_simp; try with_reducible rfl)
              simp only [Act.put, List.getElem_toArray, List.getElem_cons_succ, List.getElem_cons_zero, List.setIfInBounds_toArray, List.set_cons_zero, List.set_cons_succ]
              refine TKB (i := 6) (v := ?v6z) rfl ?y6z ?r6z
              case y6z => (intro w hSw; (try dsimp only at hSw); go_simp; try with_reducible rfl)
              simp only [Act.put, List.getElem_toArray, List.getElem_cons_succ, List.getElem_cons_zero, List.setIfInBounds_toArray, List.set_cons_zero, List.set_cons_succ]
              refine TKB (i := 7) (v := ?v7z) rfl ?y7z ?r7z
              case y7z => (intro w hSw; (try dsimp only at hSw); go_simp; try with_reducible rfl)
              simp only [Act.put, List.getElem_toArray, List.getElem_cons_succ, List.getElem_cons_zero, List.setIfInBounds_toArray, List.set_cons_zero, List.set_cons_succ]
              refine TKB (i := 8) (v := ?v8z) rfl ?y8z ?r8z
              case y8z => (intro w hSw; (try dsimp only at hSw); go_simp; try with_reducible rfl)
              simp only [Act.put, List.getElem_toArray, List.getElem_cons_succ, List.getElem_cons_zero, List.setIfInBounds_toArray, List.set_cons_zero, List.set_cons_succ]
              refine TKB (i := 9) (v := ?v9z) rfl ?y9z ?r9z
              case y9z => (intro w hSw; (try dsimp only at hSw); go_simp; (try rw [if_pos ⟨j0, j3⟩]); try with_reducible rfl)
              simp only [Act.put, List.getElem_toArray, List.getElem_cons_succ, List.getElem_cons_zero, List.setIfInBounds_toArray, List.set_cons_zero, List.set_cons_succ]
              refine TKB (i := 10) (v := ?vbaz) rfl ?ybaz ?rbaz
              case ybaz => (intro w hSw; (try dsimp only at hSw); go_simp; try with_reducible rfl)
              simp only [Act.put, List.getElem_toArray, List.getElem_cons_succ, List.getElem_cons_zero, List.setIfInBounds_toArray, List.set_cons_zero, List.set_cons_succ]
              refine TKB (i := 11) (v := ?vbbz) rfl ?ybbz ?rbbz
              case ybbz => (intro w hSw; obtain ⟨⟨q0, q1, q2⟩, q3, q4⟩ := hSw.out; clear hSw; go_simp; try with_reducible rfl)
              simp only [Act.put, List.getElem_toArray, List.getElem_cons_succ, List.getElem_cons_zero, List.setIfInBounds_toArray, List.set_cons_zero, List.set_cons_succ]
              refine TKB (i := 12) (v := ?vbcz) rfl ?ybcz ?rbcz
              case ybcz => (intro w hSw; (try dsimp only at hSw); go_simp; try with_reducible rfl)
              simp only [Act.put, List.getElem_toArray, List.getElem_cons_succ, List.getElem_cons_zero, List.setIfInBounds_toArray, List.set_cons_zero, List.set_cons_succ]
              refine TKB (i := 13) (v := ?vbdz) rfl ?ybdz ?rbdz
              case ybdz => (intro w hSw; (try dsimp only at hSw); go_simp; try with_reducible rfl)
              simp only [Act.put, List.getElem_toArray, List.getElem_cons_succ, List.getElem_cons_zero, List.setIfInBounds_toArray, List.set_cons_zero, List.set_cons_succ]
              refine TKB (i := 14) (v := ?vbez) rfl ?ybez ?rbez
              case ybez => (intro w hSw; (try dsimp only at hSw); go_simp; (try rw [if_pos ⟨j0, j3⟩]); try with_reducible rfl)
              simp only [Act.put, List.getElem_toArray, List.getElem_cons_succ, List.getElem_cons_zero, List.setIfInBounds_toArray, List.set_cons_zero, List.set_cons_succ]
              refine TKB (i := 15) (v := ?vbfz) rfl ?ybfz ?rbfz
              case ybfz => (intro w hSw; (try dsimp only at hSw); go_simp; try with_reducible rfl)
              simp only [Act.put, List.getElem_toArray, List.getElem_cons_succ, List.getElem_cons_zero, List.setIfInBounds_toArray, List.set_cons_zero, List.set_cons_succ]
              refine TKB (i := 16) (v := ?vbgz) rfl ?ybgz ?rbgz
              case ybgz => (intro w hSw; obtain ⟨⟨q0, q1, q2⟩, q3, q4⟩ := hSw.out; clear hSw; go_simp; try with_reducible rfl)
              simp only [Act.put, List.getElem_toArray, List.getElem_cons_succ, List.getElem_cons_zero, List.setIfInBounds_toArray, List.set_cons_zero, List.set_cons_succ]
              refine TKB (i := 17) (v := ?vbhz) rfl ?ybhz ?rbhz
              case ybhz => (intro w hSw; (try dsimp only at hSw); go_simp; try with_reducible rfl)
              simp only [Act.put, List.getElem_toArray, List.getElem_cons_succ, List.getElem_cons_zero, List.setIfInBounds_toArray, List.set_cons_zero, List.set_cons_succ]
              refine TKB (i := 18) (v := ?vbiz) rfl ?ybiz ?rbiz
              case ybiz => (intro w hSw; (try dsimp only at hSw); go_simp; try with_reducible rfl)
              simp only [Act.put, List.getElem_toArray, List.getElem_cons_succ, List.getElem_cons_zero, List.setIfInBounds_toArray, List.set_cons_zero, List.set_cons_succ]
              refine TKB (i := 19) (v := ?vbjz) rfl ?ybjz ?rbjz
              case ybjz => (intro w hSw; (try dsimp only at hSw); go_simp; try with_reducible rfl)
              simp only [Act.put, List.getElem_toArray, List.getElem_cons_succ, List.getElem_cons_zero, List.setIfInBounds_toArray, List.set_cons_zero, List.set_cons_succ]
              refine TKB (i := 20) (v := ?vbkz) rfl ?ybkz ?rbkz
              case ybkz => (intro w hSw; (try dsimp only at hSw); go_simp; try with_reducible rfl)
              simp only [Act.put, List.getElem_toArray, List.getElem_cons_succ, List.getElem_cons_zero, List.setIfInBounds_toArray, List.set_cons_zero, List.set_cons_succ]
              refine TKB (i := 21) (v := ?vblz) rfl ?yblz ?rblz
              case yblz => (intro w hSw; (try dsimp only at hSw); go_simp; (try rw [if_pos ⟨j0, j3⟩]); try with_reducible rfl)
              simp only [Act.put, List.getElem_toArray, List.getElem_cons_succ, List.getElem_cons_zero, List.setIfInBounds_toArray, List.set_cons_zero, List.set_cons_succ]
              refine TKB (i := 22) (v := ?vbmz) rfl ?ybmz ?rbmz
              case ybmz => (intro w hSw; (try dsimp only at hSw); go_simp; try with_reducible rfl)
              simp only [Act.put, List.getElem_toArray, List.getElem_cons_succ, List.getElem_cons_zero, List.setIfInBounds_toArray, List.set_cons_zero, List.set_cons_succ]
              refine TKB (i := 23) (v := ?vbnz) rfl ?ybnz ?rbnz
              case ybnz => (intro w hSw; obtain ⟨⟨q0, q1, q2⟩, q3, q4⟩ := hSw.out; clear hSw; go_simp; try with_reducible rfl)
              simp only [Act.put, List.getElem_toArray, List.getElem_cons_succ, List.getElem_cons_zero, List.setIfInBounds_toArray, List.set_cons_zero, List.set_cons_succ]
              refine TKB (i := 24) (v := ?vboz) rfl ?yboz ?rboz
              case yboz => (intro w hSw; (try dsimp only at hSw); go_simp; try with_reducible rfl)
              simp only [Act.put, List.getElem_toArray, List.getElem_cons_succ, List.getElem_cons_zero, List.setIfInBounds_toArray, List.set_cons_zero, List.set_cons_succ]
              refine TKB (i := 25) (v := ?vbpz) rfl ?ybpz ?rbpz
              case ybpz => (intro w hSw; (try dsimp only at hSw); go_simp; try with_reducible rfl)
              simp only [Act.put, List.getElem_toArray, List.getElem_cons_succ, List.getElem_cons_zero, List.setIfInBounds_toArray, List.set_cons_zero, List.set_cons_succ]
              refine TKU (i := 26) rfl ?_
              simp only [Act.put, List.getElem_toArray, List.getElem_cons_succ, List.getElem_cons_zero, List.setIfInBounds_toArray, List.set_cons_zero, List.set_cons_succ]
              refine TKU (i := 27) rfl ?_
              simp only [Act.put, List.getElem_toArray, List.getElem_cons_succ, List.getElem_cons_zero, List.setIfInBounds_toArray, List.set_cons_zero, List.set_cons_succ]
              refine TKU (i := 28) rfl ?_
              simp only [Act.put, List.getElem_toArray, List.getElem_cons_succ, List.getElem_cons_zero, List.setIfInBounds_toArray, List.set_cons_zero, List.set_cons_succ]
              refine TKU (i := 29) rfl ?_
              simp only [Act.put, List.getElem_toArray, List.getElem_cons_succ, List.getElem_cons_zero, List.setIfInBounds_toArray, List.set_cons_zero, List.set_cons_succ]
              refine TKU (i := 30) rfl ?_
              simp only [Act.put, List.getElem_toArray, List.getElem_cons_succ, List.getElem_cons_zero, List.setIfInBounds_toArray, List.set_cons_zero, List.set_cons_succ]
              refine TKU (i := 31) rfl ?_
              simp only [Act.put, List.getElem_toArray, List.getElem_cons_succ, List.getElem_cons_zero, List.setIfInBounds_toArray, List.set_cons_zero, List.set_cons_succ]
              refine TKB (i := 32) (v := ?vbqz) rfl ?ybqz ?rbqz
              case ybqz => (intro w hSw; (try dsimp only at hSw); go_simp; try with_reducible rfl)
              simp only [Act.put, List.getElem_toArray, List.getElem_cons_succ, List.getElem_cons_zero, List.setIfInBounds_toArray, List.set_cons_zero, List.set_cons_succ]
              refine TKB (i := 33) (v := ?vbrz) rfl ?ybrz ?rbrz
              case ybrz => (intro w hSw; (try dsimp only at hSw); go_simp; try with_reducible rfl)
              simp only [Act.put, List.getElem_toArray, List.getElem_cons_succ, List.getElem_cons_zero, List.setIfInBounds_toArray, List.set_cons_zero, List.set_cons_succ]
              refine TKB (i := 34) (v := ?vbsz) rfl ?ybsz ?rbsz
              case ybsz => (intro w hSw; (try dsimp only at hSw); go_simp; try with_reducible rfl)
              simp only [Act.put, List.getElem_toArray, List.getElem_cons_succ, List.getElem_cons_zero, List.setIfInBounds_toArray, List.set_cons_zero, List.set_cons_succ]
              refine wpAnyH_done (by kernel_rfl) ?_ _
              go_wp2_with fail
              go_ret
              exact ⟨⟨false, rfl, ⟨fun h => (by cases h), fun h => absurd (HX.out h) HNo.out⟩⟩, KR.out.trans K4.out⟩
            | false =>
              cases xb with
              | true =>
                have HJ2 := Lib.hid (HJ3.out (by
                  unfold holdsB Vv.good
                  simp only [Bool.and_eq_true, Bool.or_eq_true, decide_eq_true_eq]
                  exact ⟨hgd, .inr ⟨by simpa using hq, trivial⟩⟩))
                clear hgd HJ3 HX
                refine wp_region_held_drew (S := (fun W => Hid ((W.cell? ⟨b2, off2 + k * 3, none⟩ = some (.int .i64 yk) ∧ W.cell? ⟨b2, off2 + k * 3 + 1, none⟩ = some (.int .i64 yn) ∧ W.cell? ⟨b2, off2 + k * 3 + 2, none⟩ = some (.string ys)) ∧ W.cell? ⟨b, off + k * 3 + 1, none⟩ = some (.int .i64 xk) ∧ W.cell? ⟨b, off + k * 3 + 2, none⟩ = some (.bool true)))) (by kernel_rfl) (Lib.hid (FS.out _ (grown_drew6 (grown_refl6 wr none)))) (fun hHeld => ?_)
                refine TKB (i := 0) (v := ?vbtz) rfl ?ybtz ?rbtz
                case ybtz => (intro w hSw; (try dsimp only at hSw); go_simp; try with_reducible rfl)
                simp only [Act.put, List.getElem_toArray, List.getElem_cons_zero, List.size_toArray, List.length_cons, List.length_nil, Nat.reduceAdd, Array.replicate, List.replicate, List.setIfInBounds_toArray, List.set_cons_zero, List.set_cons_succ]
                refine TKB (i := 1) (v := ?vbuz) rfl ?ybuz ?rbuz
                case ybuz => (intro w hSw; (try dsimp only at hSw); go_simp; try with_reducible rfl)
                simp only [Act.put, List.getElem_toArray, List.getElem_cons_succ, List.getElem_cons_zero, List.setIfInBounds_toArray, List.set_cons_zero, List.set_cons_succ]
                refine TKB (i := 2) (v := ?vbvz) rfl ?ybvz ?rbvz
                case ybvz => (intro w hSw; (try dsimp only at hSw); go_simp; (try rw [if_pos ⟨j0, j3⟩]); try with_reducible rfl)
                simp only [Act.put, List.getElem_toArray, List.getElem_cons_succ, List.getElem_cons_zero, List.setIfInBounds_toArray, List.set_cons_zero, List.set_cons_succ]
                refine TKB (i := 3) (v := ?vbwz) rfl ?ybwz ?rbwz
                case ybwz => (intro w hSw; obtain ⟨⟨q0, q1, q2⟩, q3, q4⟩ := hSw.out; clear hSw; go_simp; try with_reducible rfl)
                simp only [Act.put, List.getElem_toArray, List.getElem_cons_succ, List.getElem_cons_zero, List.setIfInBounds_toArray, List.set_cons_zero, List.set_cons_succ]
                refine RD1 (i := 4) rfl (fun K' hK => ?_)
                go_simp
                go_at_call 42
                refine (HG.out _).mono ?_
                rintro e w4 ⟨rfl, hg4⟩
                have K4 := Lib.hid ((grown_drew6 (grown_refl6 wr none)).trans (grown_below6 hg4 none))
                clear hg4
                refine hK.out _ _ (Lib.hid (FS.out _ K4.out)) (fun hHeld => ?_)
                clear hK K'
                simp only [List.setIfInBounds_toArray, List.set_cons_zero, List.set_cons_succ]
                refine TKB (i := 5) (v := ?vbxz) rfl ?ybxz ?rbxz
                case ybxz => (intro w hSw; (try dsimp only at hSw); go_simp; try with_reducible rfl)
                simp only [Act.put, List.getElem_toArray, List.getElem_cons_succ, List.getElem_cons_zero, List.setIfInBounds_toArray, List.set_cons_zero, List.set_cons_succ]
                refine TKB (i := 6) (v := ?vbyz) rfl ?ybyz ?rbyz
                case ybyz => (intro w hSw; (try dsimp only at hSw); go_simp; try with_reducible rfl)
                simp only [Act.put, List.getElem_toArray, List.getElem_cons_succ, List.getElem_cons_zero, List.setIfInBounds_toArray, List.set_cons_zero, List.set_cons_succ]
                refine TKB (i := 7) (v := ?vbzz) rfl ?ybzz ?rbzz
                case ybzz => (intro w hSw; (try dsimp only at hSw); go_simp; try with_reducible rfl)
                simp only [Act.put, List.getElem_toArray, List.getElem_cons_succ, List.getElem_cons_zero, List.setIfInBounds_toArray, List.set_cons_zero, List.set_cons_succ]
                refine TKB (i := 8) (v := ?vb0z) rfl ?yb0z ?rb0z
                case yb0z => (intro w hSw; (try dsimp only at hSw); go_simp; try with_reducible rfl)
                simp only [Act.put, List.getElem_toArray, List.getElem_cons_succ, List.getElem_cons_zero, List.setIfInBounds_toArray, List.set_cons_zero, List.set_cons_succ]
                refine TKB (i := 9) (v := ?vb1z) rfl ?yb1z ?rb1z
                case yb1z => (intro w hSw; (try dsimp only at hSw); go_simp; (try rw [if_pos ⟨j0, j3⟩]); try with_reducible rfl)
                simp only [Act.put, List.getElem_toArray, List.getElem_cons_succ, List.getElem_cons_zero, List.setIfInBounds_toArray, List.set_cons_zero, List.set_cons_succ]
                refine TKB (i := 10) (v := ?vb2z) rfl ?yb2z ?rb2z
                case yb2z => (intro w hSw; (try dsimp only at hSw); go_simp; try with_reducible rfl)
                simp only [Act.put, List.getElem_toArray, List.getElem_cons_succ, List.getElem_cons_zero, List.setIfInBounds_toArray, List.set_cons_zero, List.set_cons_succ]
                refine TKB (i := 11) (v := ?vb3z) rfl ?yb3z ?rb3z
                case yb3z => (intro w hSw; obtain ⟨⟨q0, q1, q2⟩, q3, q4⟩ := hSw.out; clear hSw; go_simp; try with_reducible rfl)
                simp only [Act.put, List.getElem_toArray, List.getElem_cons_succ, List.getElem_cons_zero, List.setIfInBounds_toArray, List.set_cons_zero, List.set_cons_succ]
                refine TKB (i := 12) (v := ?vb4z) rfl ?yb4z ?rb4z
                case yb4z => (intro w hSw; (try dsimp only at hSw); go_simp; try with_reducible rfl)
                simp only [Act.put, List.getElem_toArray, List.getElem_cons_succ, List.getElem_cons_zero, List.setIfInBounds_toArray, List.set_cons_zero, List.set_cons_succ]
                refine TKB (i := 13) (v := ?vb5z) rfl ?yb5z ?rb5z
                case yb5z => (intro w hSw; (try dsimp only at hSw); go_simp; try with_reducible rfl)
                simp only [Act.put, List.getElem_toArray, List.getElem_cons_succ, List.getElem_cons_zero, List.setIfInBounds_toArray, List.set_cons_zero, List.set_cons_succ]
                refine TKB (i := 14) (v := ?vb6z) rfl ?yb6z ?rb6z
                case yb6z => (intro w hSw; (try dsimp only at hSw); go_simp; (try rw [if_pos ⟨j0, j3⟩]); try with_reducible rfl)
                simp only [Act.put, List.getElem_toArray, List.getElem_cons_succ, List.getElem_cons_zero, List.setIfInBounds_toArray, List.set_cons_zero, List.set_cons_succ]
                refine TKB (i := 15) (v := ?vb7z) rfl ?yb7z ?rb7z
                case yb7z => (intro w hSw; (try dsimp only at hSw); go_simp; try with_reducible rfl)
                simp only [Act.put, List.getElem_toArray, List.getElem_cons_succ, List.getElem_cons_zero, List.setIfInBounds_toArray, List.set_cons_zero, List.set_cons_succ]
                refine TKB (i := 16) (v := ?vb8z) rfl ?yb8z ?rb8z
                case yb8z => (intro w hSw; obtain ⟨⟨q0, q1, q2⟩, q3, q4⟩ := hSw.out; clear hSw; go_simp; try with_reducible rfl)
                simp only [Act.put, List.getElem_toArray, List.getElem_cons_succ, List.getElem_cons_zero, List.setIfInBounds_toArray, List.set_cons_zero, List.set_cons_succ]
                refine TKB (i := 17) (v := ?vb9z) rfl ?yb9z ?rb9z
                case yb9z => (intro w hSw; (try dsimp only at hSw); go_simp; try with_reducible rfl)
                simp only [Act.put, List.getElem_toArray, List.getElem_cons_succ, List.getElem_cons_zero, List.setIfInBounds_toArray, List.set_cons_zero, List.set_cons_succ]
                refine TKB (i := 18) (v := ?vcaz) rfl ?ycaz ?rcaz
                case ycaz => (intro w hSw; (try dsimp only at hSw); go_simp; try with_reducible rfl)
                simp only [Act.put, List.getElem_toArray, List.getElem_cons_succ, List.getElem_cons_zero, List.setIfInBounds_toArray, List.set_cons_zero, List.set_cons_succ]
                refine TKB (i := 19) (v := ?vcbz) rfl ?ycbz ?rcbz
                case ycbz => (intro w hSw; (try dsimp only at hSw); go_simp; try with_reducible rfl)
                simp only [Act.put, List.getElem_toArray, List.getElem_cons_succ, List.getElem_cons_zero, List.setIfInBounds_toArray, List.set_cons_zero, List.set_cons_succ]
                refine TKB (i := 20) (v := ?vccz) rfl ?yccz ?rccz
                case yccz => (intro w hSw; (try dsimp only at hSw); go_simp; try with_reducible rfl)
                simp only [Act.put, List.getElem_toArray, List.getElem_cons_succ, List.getElem_cons_zero, List.setIfInBounds_toArray, List.set_cons_zero, List.set_cons_succ]
                refine TKB (i := 21) (v := ?vcdz) rfl ?ycdz ?rcdz
                case ycdz => (intro w hSw; (try dsimp only at hSw); go_simp; (try rw [if_pos ⟨j0, j3⟩]); try with_reducible rfl)
                simp only [Act.put, List.getElem_toArray, List.getElem_cons_succ, List.getElem_cons_zero, List.setIfInBounds_toArray, List.set_cons_zero, List.set_cons_succ]
                refine TKB (i := 22) (v := ?vcez) rfl ?ycez ?rcez
                case ycez => (intro w hSw; (try dsimp only at hSw); go_simp; try with_reducible rfl)
                simp only [Act.put, List.getElem_toArray, List.getElem_cons_succ, List.getElem_cons_zero, List.setIfInBounds_toArray, List.set_cons_zero, List.set_cons_succ]
                refine TKB (i := 23) (v := ?vcfz) rfl ?ycfz ?rcfz
                case ycfz => (intro w hSw; obtain ⟨⟨q0, q1, q2⟩, q3, q4⟩ := hSw.out; clear hSw; go_simp; try with_reducible rfl)
                simp only [Act.put, List.getElem_toArray, List.getElem_cons_succ, List.getElem_cons_zero, List.setIfInBounds_toArray, List.set_cons_zero, List.set_cons_succ]
                refine TKB (i := 24) (v := ?vcgz) rfl ?ycgz ?rcgz
                case ycgz => (intro w hSw; (try dsimp only at hSw); go_simp; try with_reducible rfl)
                simp only [Act.put, List.getElem_toArray, List.getElem_cons_succ, List.getElem_cons_zero, List.setIfInBounds_toArray, List.set_cons_zero, List.set_cons_succ]
                refine TKB (i := 25) (v := ?vchz) rfl ?ychz ?rchz
                case ychz => (intro w hSw; (try dsimp only at hSw); go_simp; try with_reducible rfl)
                simp only [Act.put, List.getElem_toArray, List.getElem_cons_succ, List.getElem_cons_zero, List.setIfInBounds_toArray, List.set_cons_zero, List.set_cons_succ]
                refine TKB (i := 26) (v := ?vciz) rfl ?yciz ?rciz
                case yciz => (intro w hSw; (try dsimp only at hSw); go_simp; try with_reducible rfl)
                simp only [Act.put, List.getElem_toArray, List.getElem_cons_succ, List.getElem_cons_zero, List.setIfInBounds_toArray, List.set_cons_zero, List.set_cons_succ]
                refine TKB (i := 27) (v := ?vcjz) rfl ?ycjz ?rcjz
                case ycjz => (intro w hSw; (try dsimp only at hSw); go_simp; try with_reducible rfl)
                simp only [Act.put, List.getElem_toArray, List.getElem_cons_succ, List.getElem_cons_zero, List.setIfInBounds_toArray, List.set_cons_zero, List.set_cons_succ]
                refine TKB (i := 28) (v := ?vckz) rfl ?yckz ?rckz
                case yckz => (intro w hSw; (try dsimp only at hSw); go_simp; (try rw [if_pos ⟨j0, j3⟩]); try with_reducible rfl)
                simp only [Act.put, List.getElem_toArray, List.getElem_cons_succ, List.getElem_cons_zero, List.setIfInBounds_toArray, List.set_cons_zero, List.set_cons_succ]
                refine TKB (i := 29) (v := ?vclz) rfl ?yclz ?rclz
                case yclz => (intro w hSw; (try dsimp only at hSw); go_simp; try with_reducible rfl)
                simp only [Act.put, List.getElem_toArray, List.getElem_cons_succ, List.getElem_cons_zero, List.setIfInBounds_toArray, List.set_cons_zero, List.set_cons_succ]
                refine TKB (i := 30) (v := ?vcmz) rfl ?ycmz ?rcmz
                case ycmz => (intro w hSw; obtain ⟨⟨q0, q1, q2⟩, q3, q4⟩ := hSw.out; clear hSw; go_simp; try with_reducible rfl)
                simp only [Act.put, List.getElem_toArray, List.getElem_cons_succ, List.getElem_cons_zero, List.setIfInBounds_toArray, List.set_cons_zero, List.set_cons_succ]
                refine TKB (i := 31) (v := ?vcnz) rfl ?ycnz ?rcnz
                case ycnz => (intro w hSw; (try dsimp only at hSw); go_simp; try with_reducible rfl)
                simp only [Act.put, List.getElem_toArray, List.getElem_cons_succ, List.getElem_cons_zero, List.setIfInBounds_toArray, List.set_cons_zero, List.set_cons_succ]
                refine TKB (i := 32) (v := ?vcoz) rfl ?ycoz ?rcoz
                case ycoz => (intro w hSw; (try dsimp only at hSw); go_simp; try with_reducible rfl)
                simp only [Act.put, List.getElem_toArray, List.getElem_cons_succ, List.getElem_cons_zero, List.setIfInBounds_toArray, List.set_cons_zero, List.set_cons_succ]
                refine TKB (i := 33) (v := ?vcpz) rfl ?ycpz ?rcpz
                case ycpz => (intro w hSw; (try dsimp only at hSw); go_simp; try with_reducible rfl)
                simp only [Act.put, List.getElem_toArray, List.getElem_cons_succ, List.getElem_cons_zero, List.setIfInBounds_toArray, List.set_cons_zero, List.set_cons_succ]
                refine TKB (i := 34) (v := ?vcqz) rfl ?ycqz ?rcqz
                case ycqz => (intro w hSw; (try dsimp only at hSw); go_simp; try with_reducible rfl)
                simp only [Act.put, List.getElem_toArray, List.getElem_cons_succ, List.getElem_cons_zero, List.setIfInBounds_toArray, List.set_cons_zero, List.set_cons_succ]
                refine wpAnyH_done (by kernel_rfl) ?_ _
                go_wp2_with fail
                go_roundw
                case rel => exact ⟨k + 1, by go_num, by omega, Lib.hid (KR.out.trans K4.out), HJ2⟩
                case measure => simp [intOf]; omega
              | false =>
                have HNo : Hid (¬ holdsB ⟨xn, xk, false⟩ ⟨yk, yn, ys⟩ = true) := Lib.hid (fun h => by
                  have := (holdsB_two h).2
                  simp only at this
                  rw [hp, hq] at this
                  simp at this)
                clear hgd HJ3
                refine wp_region_held_drew (S := (fun W => Hid ((W.cell? ⟨b2, off2 + k * 3, none⟩ = some (.int .i64 yk) ∧ W.cell? ⟨b2, off2 + k * 3 + 1, none⟩ = some (.int .i64 yn) ∧ W.cell? ⟨b2, off2 + k * 3 + 2, none⟩ = some (.string ys)) ∧ W.cell? ⟨b, off + k * 3 + 1, none⟩ = some (.int .i64 xk) ∧ W.cell? ⟨b, off + k * 3 + 2, none⟩ = some (.bool false)))) (by kernel_rfl) (Lib.hid (FS.out _ (grown_drew6 (grown_refl6 wr none)))) (fun hHeld => ?_)
                refine TKB (i := 0) (v := ?vcrz) rfl ?ycrz ?rcrz
                case ycrz => (intro w hSw; (try dsimp only at hSw); go_simp; try with_reducible rfl)
                simp only [Act.put, List.getElem_toArray, List.getElem_cons_zero, List.size_toArray, List.length_cons, List.length_nil, Nat.reduceAdd, Array.replicate, List.replicate, List.setIfInBounds_toArray, List.set_cons_zero, List.set_cons_succ]
                refine TKB (i := 1) (v := ?vcsz) rfl ?ycsz ?rcsz
                case ycsz => (intro w hSw; (try dsimp only at hSw); go_simp; try with_reducible rfl)
                simp only [Act.put, List.getElem_toArray, List.getElem_cons_succ, List.getElem_cons_zero, List.setIfInBounds_toArray, List.set_cons_zero, List.set_cons_succ]
                refine TKB (i := 2) (v := ?vctz) rfl ?yctz ?rctz
                case yctz => (intro w hSw; (try dsimp only at hSw); go_simp; (try rw [if_pos ⟨j0, j3⟩]); try with_reducible rfl)
                simp only [Act.put, List.getElem_toArray, List.getElem_cons_succ, List.getElem_cons_zero, List.setIfInBounds_toArray, List.set_cons_zero, List.set_cons_succ]
                refine TKB (i := 3) (v := ?vcuz) rfl ?ycuz ?rcuz
                case ycuz => (intro w hSw; obtain ⟨⟨q0, q1, q2⟩, q3, q4⟩ := hSw.out; clear hSw; go_simp; try with_reducible rfl)
                simp only [Act.put, List.getElem_toArray, List.getElem_cons_succ, List.getElem_cons_zero, List.setIfInBounds_toArray, List.set_cons_zero, List.set_cons_succ]
                refine RD1 (i := 4) rfl (fun K' hK => ?_)
                go_simp
                go_at_call 42
                refine (HG.out _).mono ?_
                rintro e w4 ⟨rfl, hg4⟩
                have K4 := Lib.hid ((grown_drew6 (grown_refl6 wr none)).trans (grown_below6 hg4 none))
                clear hg4
                refine hK.out _ _ (Lib.hid (FS.out _ K4.out)) (fun hHeld => ?_)
                clear hK K'
                simp only [List.setIfInBounds_toArray, List.set_cons_zero, List.set_cons_succ]
                refine TKB (i := 5) (v := ?vcvz) rfl ?ycvz ?rcvz
                case ycvz => (intro w hSw; (try dsimp only at hSw); go_simp; try with_reducible rfl)
                simp only [Act.put, List.getElem_toArray, List.getElem_cons_succ, List.getElem_cons_zero, List.setIfInBounds_toArray, List.set_cons_zero, List.set_cons_succ]
                refine TKB (i := 6) (v := ?vcwz) rfl ?ycwz ?rcwz
                case ycwz => (intro w hSw; (try dsimp only at hSw); go_simp; try with_reducible rfl)
                simp only [Act.put, List.getElem_toArray, List.getElem_cons_succ, List.getElem_cons_zero, List.setIfInBounds_toArray, List.set_cons_zero, List.set_cons_succ]
                refine TKB (i := 7) (v := ?vcxz) rfl ?ycxz ?rcxz
                case ycxz => (intro w hSw; (try dsimp only at hSw); go_simp; try with_reducible rfl)
                simp only [Act.put, List.getElem_toArray, List.getElem_cons_succ, List.getElem_cons_zero, List.setIfInBounds_toArray, List.set_cons_zero, List.set_cons_succ]
                refine TKB (i := 8) (v := ?vcyz) rfl ?ycyz ?rcyz
                case ycyz => (intro w hSw; (try dsimp only at hSw); go_simp; try with_reducible rfl)
                simp only [Act.put, List.getElem_toArray, List.getElem_cons_succ, List.getElem_cons_zero, List.setIfInBounds_toArray, List.set_cons_zero, List.set_cons_succ]
                refine TKB (i := 9) (v := ?vczz) rfl ?yczz ?rczz
                case yczz => (intro w hSw; (try dsimp only at hSw); go_simp; (try rw [if_pos ⟨j0, j3⟩]); try with_reducible rfl)
                simp only [Act.put, List.getElem_toArray, List.getElem_cons_succ, List.getElem_cons_zero, List.setIfInBounds_toArray, List.set_cons_zero, List.set_cons_succ]
                refine TKB (i := 10) (v := ?vc0z) rfl ?yc0z ?rc0z
                case yc0z => (intro w hSw; (try dsimp only at hSw); go_simp; try with_reducible rfl)
                simp only [Act.put, List.getElem_toArray, List.getElem_cons_succ, List.getElem_cons_zero, List.setIfInBounds_toArray, List.set_cons_zero, List.set_cons_succ]
                refine TKB (i := 11) (v := ?vc1z) rfl ?yc1z ?rc1z
                case yc1z => (intro w hSw; obtain ⟨⟨q0, q1, q2⟩, q3, q4⟩ := hSw.out; clear hSw; go_simp; try with_reducible rfl)
                simp only [Act.put, List.getElem_toArray, List.getElem_cons_succ, List.getElem_cons_zero, List.setIfInBounds_toArray, List.set_cons_zero, List.set_cons_succ]
                refine TKB (i := 12) (v := ?vc2z) rfl ?yc2z ?rc2z
                case yc2z => (intro w hSw; (try dsimp only at hSw); go_simp; try with_reducible rfl)
                simp only [Act.put, List.getElem_toArray, List.getElem_cons_succ, List.getElem_cons_zero, List.setIfInBounds_toArray, List.set_cons_zero, List.set_cons_succ]
                refine TKB (i := 13) (v := ?vc3z) rfl ?yc3z ?rc3z
                case yc3z => (intro w hSw; (try dsimp only at hSw); go_simp; try with_reducible rfl)
                simp only [Act.put, List.getElem_toArray, List.getElem_cons_succ, List.getElem_cons_zero, List.setIfInBounds_toArray, List.set_cons_zero, List.set_cons_succ]
                refine TKB (i := 14) (v := ?vc4z) rfl ?yc4z ?rc4z
                case yc4z => (intro w hSw; (try dsimp only at hSw); go_simp; (try rw [if_pos ⟨j0, j3⟩]); try with_reducible rfl)
                simp only [Act.put, List.getElem_toArray, List.getElem_cons_succ, List.getElem_cons_zero, List.setIfInBounds_toArray, List.set_cons_zero, List.set_cons_succ]
                refine TKB (i := 15) (v := ?vc5z) rfl ?yc5z ?rc5z
                case yc5z => (intro w hSw; (try dsimp only at hSw); go_simp; try with_reducible rfl)
                simp only [Act.put, List.getElem_toArray, List.getElem_cons_succ, List.getElem_cons_zero, List.setIfInBounds_toArray, List.set_cons_zero, List.set_cons_succ]
                refine TKB (i := 16) (v := ?vc6z) rfl ?yc6z ?rc6z
                case yc6z => (intro w hSw; obtain ⟨⟨q0, q1, q2⟩, q3, q4⟩ := hSw.out; clear hSw; go_simp; try with_reducible rfl)
                simp only [Act.put, List.getElem_toArray, List.getElem_cons_succ, List.getElem_cons_zero, List.setIfInBounds_toArray, List.set_cons_zero, List.set_cons_succ]
                refine TKB (i := 17) (v := ?vc7z) rfl ?yc7z ?rc7z
                case yc7z => (intro w hSw; (try dsimp only at hSw); go_simp; try with_reducible rfl)
                simp only [Act.put, List.getElem_toArray, List.getElem_cons_succ, List.getElem_cons_zero, List.setIfInBounds_toArray, List.set_cons_zero, List.set_cons_succ]
                refine TKB (i := 18) (v := ?vc8z) rfl ?yc8z ?rc8z
                case yc8z => (intro w hSw; (try dsimp only at hSw); go_simp; try with_reducible rfl)
                simp only [Act.put, List.getElem_toArray, List.getElem_cons_succ, List.getElem_cons_zero, List.setIfInBounds_toArray, List.set_cons_zero, List.set_cons_succ]
                refine TKB (i := 19) (v := ?vc9z) rfl ?yc9z ?rc9z
                case yc9z => (intro w hSw; (try dsimp only at hSw); go_simp; try with_reducible rfl)
                simp only [Act.put, List.getElem_toArray, List.getElem_cons_succ, List.getElem_cons_zero, List.setIfInBounds_toArray, List.set_cons_zero, List.set_cons_succ]
                refine TKB (i := 20) (v := ?vdaz) rfl ?ydaz ?rdaz
                case ydaz => (intro w hSw; (try dsimp only at hSw); go_simp; try with_reducible rfl)
                simp only [Act.put, List.getElem_toArray, List.getElem_cons_succ, List.getElem_cons_zero, List.setIfInBounds_toArray, List.set_cons_zero, List.set_cons_succ]
                refine TKB (i := 21) (v := ?vdbz) rfl ?ydbz ?rdbz
                case ydbz => (intro w hSw; (try dsimp only at hSw); go_simp; (try rw [if_pos ⟨j0, j3⟩]); try with_reducible rfl)
                simp only [Act.put, List.getElem_toArray, List.getElem_cons_succ, List.getElem_cons_zero, List.setIfInBounds_toArray, List.set_cons_zero, List.set_cons_succ]
                refine TKB (i := 22) (v := ?vdcz) rfl ?ydcz ?rdcz
                case ydcz => (intro w hSw; (try dsimp only at hSw); go_simp; try with_reducible rfl)
                simp only [Act.put, List.getElem_toArray, List.getElem_cons_succ, List.getElem_cons_zero, List.setIfInBounds_toArray, List.set_cons_zero, List.set_cons_succ]
                refine TKB (i := 23) (v := ?vddz) rfl ?yddz ?rddz
                case yddz => (intro w hSw; obtain ⟨⟨q0, q1, q2⟩, q3, q4⟩ := hSw.out; clear hSw; go_simp; try with_reducible rfl)
                simp only [Act.put, List.getElem_toArray, List.getElem_cons_succ, List.getElem_cons_zero, List.setIfInBounds_toArray, List.set_cons_zero, List.set_cons_succ]
                refine TKB (i := 24) (v := ?vdez) rfl ?ydez ?rdez
                case ydez => (intro w hSw; (try dsimp only at hSw); go_simp; try with_reducible rfl)
                simp only [Act.put, List.getElem_toArray, List.getElem_cons_succ, List.getElem_cons_zero, List.setIfInBounds_toArray, List.set_cons_zero, List.set_cons_succ]
                refine TKB (i := 25) (v := ?vdfz) rfl ?ydfz ?rdfz
                case ydfz => (intro w hSw; (try dsimp only at hSw); go_simp; try with_reducible rfl)
                simp only [Act.put, List.getElem_toArray, List.getElem_cons_succ, List.getElem_cons_zero, List.setIfInBounds_toArray, List.set_cons_zero, List.set_cons_succ]
                refine TKB (i := 26) (v := ?vdgz) rfl ?ydgz ?rdgz
                case ydgz => (intro w hSw; (try dsimp only at hSw); go_simp; try with_reducible rfl)
                simp only [Act.put, List.getElem_toArray, List.getElem_cons_succ, List.getElem_cons_zero, List.setIfInBounds_toArray, List.set_cons_zero, List.set_cons_succ]
                refine TKB (i := 27) (v := ?vdhz) rfl ?ydhz ?rdhz
                case ydhz => (intro w hSw; (try dsimp only at hSw); go_simp; try with_reducible rfl)
                simp only [Act.put, List.getElem_toArray, List.getElem_cons_succ, List.getElem_cons_zero, List.setIfInBounds_toArray, List.set_cons_zero, List.set_cons_succ]
                refine TKB (i := 28) (v := ?vdiz) rfl ?ydiz ?rdiz
                case ydiz => (intro w hSw; (try dsimp only at hSw); go_simp; (try rw [if_pos ⟨j0, j3⟩]); try with_reducible rfl)
                simp only [Act.put, List.getElem_toArray, List.getElem_cons_succ, List.getElem_cons_zero, List.setIfInBounds_toArray, List.set_cons_zero, List.set_cons_succ]
                refine TKB (i := 29) (v := ?vdjz) rfl ?ydjz ?rdjz
                case ydjz => (intro w hSw; (try dsimp only at hSw); go_simp; try with_reducible rfl)
                simp only [Act.put, List.getElem_toArray, List.getElem_cons_succ, List.getElem_cons_zero, List.setIfInBounds_toArray, List.set_cons_zero, List.set_cons_succ]
                refine TKB (i := 30) (v := ?vdkz) rfl ?ydkz ?rdkz
                case ydkz => (intro w hSw; obtain ⟨⟨q0, q1, q2⟩, q3, q4⟩ := hSw.out; clear hSw; go_simp; try with_reducible rfl)
                simp only [Act.put, List.getElem_toArray, List.getElem_cons_succ, List.getElem_cons_zero, List.setIfInBounds_toArray, List.set_cons_zero, List.set_cons_succ]
                refine TKB (i := 31) (v := ?vdlz) rfl ?ydlz ?rdlz
                case ydlz => (intro w hSw; (try dsimp only at hSw); go_simp; try with_reducible rfl)
                simp only [Act.put, List.getElem_toArray, List.getElem_cons_succ, List.getElem_cons_zero, List.setIfInBounds_toArray, List.set_cons_zero, List.set_cons_succ]
                refine TKB (i := 32) (v := ?vdmz) rfl ?ydmz ?rdmz
                case ydmz => (intro w hSw; (try dsimp only at hSw); go_simp; try with_reducible rfl)
                simp only [Act.put, List.getElem_toArray, List.getElem_cons_succ, List.getElem_cons_zero, List.setIfInBounds_toArray, List.set_cons_zero, List.set_cons_succ]
                refine TKB (i := 33) (v := ?vdnz) rfl ?ydnz ?rdnz
                case ydnz => (intro w hSw; (try dsimp only at hSw); go_simp; try with_reducible rfl)
                simp only [Act.put, List.getElem_toArray, List.getElem_cons_succ, List.getElem_cons_zero, List.setIfInBounds_toArray, List.set_cons_zero, List.set_cons_succ]
                refine TKB (i := 34) (v := ?vdoz) rfl ?ydoz ?rdoz
                case ydoz => (intro w hSw; (try dsimp only at hSw); go_simp; try with_reducible rfl)
                simp only [Act.put, List.getElem_toArray, List.getElem_cons_succ, List.getElem_cons_zero, List.setIfInBounds_toArray, List.set_cons_zero, List.set_cons_succ]
                refine wpAnyH_done (by kernel_rfl) ?_ _
                go_wp2_with fail
                go_ret
                exact ⟨⟨false, rfl, ⟨fun h => (by cases h), fun h => absurd (HX.out h) HNo.out⟩⟩, KR.out.trans K4.out⟩
      · obtain rfl : rn = k := by omega
        have HT := Lib.hid (HI2.out HJ.out)
        go_wp2_with fail
        go_ret
        exact ⟨⟨true, rfl, ⟨fun _ => HT.out, fun _ => rfl⟩⟩, KR.out⟩
  · have HNo : Hid (F → False) := Lib.hid (fun h => he (HL.out h))
    have he1 : ¬ ((rn : Int) = n) := by omega
    have he2 : ((n : Int) != rn) = true := by rw [bne_iff_ne]; omega
    clear he
    go_wp2_with fail
    go_ret
    exact ⟨⟨false, rfl, ⟨fun h => (by cases h), fun h => (HNo.out h).elim⟩⟩, grown_reflT _ _⟩
end Go.Proofs.YtpklajadfbigcaaGreatDoor
namespace Go.Proofs.YtpklajadfbigcaaGreatDoor
open Go.RowKit
set_option linter.unusedVariables false
set_option linter.unusedSimpArgs false
structure Rwm where
  a : Option Addr
  c : Nat
  l : List Vv
instance : Inhabited Rwm := ⟨⟨none, 0, []⟩⟩
def RwsAt (B : Nat) (w : World) (a : Option Addr) (ls : List Rwm) : Prop :=
  ls.length ≤ 9223372036854775807 ∧ (∀ x ∈ ls, VvAt B w x.a x.l ∧ x.l.length ≤ x.c) ∧ (ls = [] ∨ ∃ b off, a = some ⟨b, off, none⟩ ∧ b < B ∧ ∀ i, i < ls.length → w.cell? ⟨b, off + i, none⟩ = some (.slice (ls.getD i default).a (ls.getD i default).l.length (ls.getD i default).c))
theorem VvAt.mono1 {B B' : Nat} {w : World} {a : Option Addr} {l : List Vv} (h : VvAt B w a l) (hB : B ≤ B') : VvAt B' w a l := ⟨h.1, h.2.imp id fun ⟨b, off, e, hlt, hc⟩ => ⟨b, off, e, by omega, hc⟩⟩
theorem RwsAt.keep {B : Nat} {w w' : World} {a : Option Addr} {l : List Rwm} (h : RwsAt B w a l) (hg : w.grownBy w' none) : RwsAt B w' a l :=
  ⟨h.1, fun x hx => ⟨(h.2.1 x hx).1.keep hg (by simp), (h.2.1 x hx).2⟩, h.2.2.imp id fun ⟨b, off, e, hlt, hc⟩ => ⟨b, off, e, hlt, fun i hi => hg.cell (hc i hi) (by simp)⟩⟩
theorem RwsAt.at {B : Nat} {w : World} {a : Option Addr} {l : List Rwm} (h : RwsAt B w a l) {i : Nat} (hi : i < l.length) : ∃ b off, a = some ⟨b, off, none⟩ ∧ b < B ∧ w.cell? ⟨b, off + i, none⟩ = some (.slice (l.getD i default).a (l.getD i default).l.length (l.getD i default).c) := by
  rcases h.2.2 with h | ⟨b, off, e, hlt, hc⟩
  · rw [h] at hi; simp at hi
  · exact ⟨b, off, e, hlt, hc i hi⟩
def RgtR (l : List Cl) (ls : List Rwm) : Prop := ls.length ≤ 300 ∧ ∀ i, i < ls.length → Fits l (ls.getD i default).l
def TellsP (F : Prop) (e : Ending) : Prop := ∃ b, e = .returned (.bool b) ∧ (b = true ↔ F)
set_option maxRecDepth 100000 in
set_option maxHeartbeats 3200000 in
theorem lawRight_any (t : Tb) (a : Option Addr) (cap : Nat) (ls : List Rwm) (w : World) (hC : ColsAt w.heap.size w t.a t.l) (hcap : t.l.length ≤ t.cap) (hR : RwsAt w.heap.size w a ls) (hlc : ls.length ≤ cap) :
    Calls Tryz.prog 8 #[.agg #[.string t.n, .slice t.a t.l.length t.cap, .int .i64 t.k], .slice a ls.length cap] w fun e w' => TellsP (RgtR t.l ls) e ∧ w.grownBy w' none := by
  have HW := Lib.hid (fun i (hi : i < ls.length) W (hW : w.grownBy W none) => refRow6_all t.a (ls.getD i default).a t.cap (ls.getD i default).c t.l (ls.getD i default).l W ((hC.keep hW (by simp)).mono hW.size) (((hR.keep hW).2.1 (ls.getD i default) (by rw [List.getD, List.getElem?_eq_getElem hi]; exact List.getElem_mem _)).1.mono1 hW.size) hcap (hR.2.1 (ls.getD i default) (by rw [List.getD, List.getElem?_eq_getElem hi]; exact List.getElem_mem _)).2)
  have HAt := Lib.hid (fun i (hi : i < ls.length) => hR.at hi)
  have hmax := hR.1
  obtain ⟨tn, ta, tc, tl, tk⟩ := t
  dsimp only at HW ⊢
  obtain ⟨F, hF⟩ : ∃ F : Prop, F = RgtR tl ls := ⟨_, rfl⟩
  have HF1 : Hid (F → ls.length ≤ 300 ∧ ∀ i, i < ls.length → Fits tl (ls.getD i default).l) := Lib.hid (fun h => by rw [hF] at h; exact h)
  have HF2 : Hid (ls.length ≤ 300 → (∀ i, i < ls.length → Fits tl (ls.getD i default).l) → F) := Lib.hid (fun h1 h2 => by rw [hF]; exact ⟨h1, h2⟩)
  rw [← hF]
  have G1 := Lib.hid (World.grownBy_alloc w (.cells #[.string tn, .slice ta tl.length tc, .int .i64 tk] 24) none)
  have B1 := Lib.hid (heap_alloc_new w (.cells #[.string tn, .slice ta tl.length tc, .int .i64 tk] 24))
  obtain ⟨m, hm⟩ : ∃ m, m = tl.length := ⟨_, rfl⟩
  obtain ⟨n, hn⟩ : ∃ n, n = ls.length := ⟨_, rfl⟩
  rw [← hm] at HW G1 B1 ⊢
  rw [← hn] at HW HAt hmax hlc HF1 HF2 ⊢
  clear hm hn hF hC hcap hR
  go_enter Tryz.func8, Tryz.ntmps8
  go_upto_region 1 with fail
  generalize w.alloc (.cells #[.string tn, .slice ta m tc, .int .i64 tk] 24) = w1 at *
  go_wp2_with fail
  go_loopw [9] (fun s wr => ∃ k : Nat, s = .int .i64 k ∧ k ≤ n ∧ Hid (w1.grownBy wr none) ∧ Hid (∀ j, j < k → Fits tl (ls.getD j default).l)) (fun s _ => n - (intOf s).toNat)
  case atStart => exact ⟨0, rfl, Nat.zero_le _, Lib.hid (grown_reflT _ _), Lib.hid (fun j hj => by omega)⟩
  case round =>
    obtain ⟨k, rfl, hk, KG, HJ⟩ := hrel
    have GR := Lib.hid (G1.out.trans KG.out)
    by_cases hlt : k < n
    · obtain ⟨b, off, rfl, hb, d0⟩ := HAt.out k hlt
      have c0 := GR.out.cell d0 (by simp)
      have HWk := Lib.hid (HW.out k hlt)
      have HX : Hid (F → Fits tl (ls.getD k default).l) := Lib.hid (fun h => (HF1.out h).2 k hlt)
      have HJ2 : Hid (Fits tl (ls.getD k default).l → ∀ j, j < k + 1 → Fits tl (ls.getD j default).l) := Lib.hid (fun hx j hj => by
        by_cases e : j = k
        · rw [e]; exact hx
        · exact HJ.out j (by omega))
      generalize ls.getD k default = x at *
      obtain ⟨xa, xc, xl⟩ := x
      dsimp only at *
      generalize xl.length = xn at *
      have T := Lib.hid (blkD KG.out B1.out)
      obtain ⟨⟨t0, t1, t2⟩, _, _, _⟩ := boxD3 T.out
      have i0 : (0 : Int) ≤ k := by omega
      have i1 : (k : Int) < n := by omega
      clear d0 HW HAt HF1 HF2
      go_wp2_with fail
      refine (HWk.out _ GR.out).mono ?_
      rintro e w2 ⟨⟨g, rfl, hg2⟩, hg⟩
      have K2 := Lib.hid (KG.out.trans hg)
      have G2 := Lib.hid (GR.out.trans hg)
      have HGG := Lib.hid hg2
      clear hg2 hg t0 t1 t2 c0
      cases g with
      | false =>
        have HNo : Hid (F → False) := Lib.hid (fun h => by have := HGG.out.2 (HX.out h); cases this)
        go_wp2_with fail
        go_ret
        exact ⟨⟨false, rfl, ⟨fun h => (by cases h), fun h => (HNo.out h).elim⟩⟩, G2.out⟩
      | true =>
        have HJ3 := Lib.hid (HJ2.out (HGG.out.1 rfl))
        go_wp2_with fail
        go_roundw
        case rel => exact ⟨k + 1, by go_num, by omega, K2, HJ3⟩
        case measure => simp [intOf]; omega
    · obtain rfl : n = k := by omega
      by_cases h3 : (n : Int) ≤ 300
      · have HT := Lib.hid (HF2.out (by omega) HJ.out)
        go_wp2_with fail
        go_ret
        exact ⟨⟨true, by simp [h3], ⟨fun _ => HT.out, fun _ => rfl⟩⟩, GR.out⟩
      · have HNo : Hid (F → False) := Lib.hid (fun h => by have := (HF1.out h).1; omega)
        go_wp2_with fail
        go_ret
        exact ⟨⟨false, by simp [h3], ⟨fun h => (by cases h), fun h => (HNo.out h).elim⟩⟩, GR.out⟩
end Go.Proofs.YtpklajadfbigcaaGreatDoor
namespace Go.Proofs.YtpklajadfbigcaaGreatDoor
open Go.RowKit
set_option linter.unusedVariables false
def catC : List Cl := [⟨⟨#[97]⟩, 2, false⟩, ⟨⟨#[98]⟩, 3, false⟩, ⟨⟨#[99]⟩, 1, true⟩, ⟨⟨#[100]⟩, 2, true⟩]
def catT (a : Ptr) : Tb := ⟨⟨#[116]⟩, a, 4, catC, 1⟩
theorem catalogC_any (w : World) : Calls Tryz.prog 17 #[] w fun e w' => (∃ a b, e = .returned (.slice b 1 1) ∧ TabsAt w'.heap.size w' b [catT a]) ∧ w.grownBy w' none := by
  go_enter Tryz.func17, Tryz.ntmps17
  go_wp2_with fail
  go_ret
  have b1 := heap_alloc_new w (.cells #[.string ⟨#[97]⟩, .int .i64 2, .bool false, .string ⟨#[98]⟩, .int .i64 3, .bool false, .string ⟨#[99]⟩, .int .i64 1, .bool true, .string ⟨#[100]⟩, .int .i64 2, .bool true] 47)
  have g1 := World.grownBy_alloc w (.cells #[.string ⟨#[97]⟩, .int .i64 2, .bool false, .string ⟨#[98]⟩, .int .i64 3, .bool false, .string ⟨#[99]⟩, .int .i64 1, .bool true, .string ⟨#[100]⟩, .int .i64 2, .bool true] 47) none
  have b2 := heap_alloc_new (w.alloc (.cells #[.string ⟨#[97]⟩, .int .i64 2, .bool false, .string ⟨#[98]⟩, .int .i64 3, .bool false, .string ⟨#[99]⟩, .int .i64 1, .bool true, .string ⟨#[100]⟩, .int .i64 2, .bool true] 47)) (.cells #[.string ⟨#[116]⟩, .slice (some ⟨w.heap.size, 0, none⟩) 4 4, .int .i64 1] 24)
  have g2 := World.grownBy_alloc (w.alloc (.cells #[.string ⟨#[97]⟩, .int .i64 2, .bool false, .string ⟨#[98]⟩, .int .i64 3, .bool false, .string ⟨#[99]⟩, .int .i64 1, .bool true, .string ⟨#[100]⟩, .int .i64 2, .bool true] 47)) (.cells #[.string ⟨#[116]⟩, .slice (some ⟨w.heap.size, 0, none⟩) 4 4, .int .i64 1] 24) none
  have b1' := blk_grown g2 b1
  rw [show (w.alloc (.cells #[.string ⟨#[97]⟩, .int .i64 2, .bool false, .string ⟨#[98]⟩, .int .i64 3, .bool false, .string ⟨#[99]⟩, .int .i64 1, .bool true, .string ⟨#[100]⟩, .int .i64 2, .bool true] 47)).heap.size = w.heap.size + 1 by simp] at b2
  refine ⟨⟨some ⟨w.heap.size, 0, none⟩, some ⟨w.heap.size + 1, 0, none⟩, rfl, (by show 1 ≤ 9223372036854775807; decide), fun t ht => ?_, .inr ⟨w.heap.size + 1, 0, rfl, (Array.getElem?_eq_some_iff.1 b2).1, fun i hi => ?_⟩⟩, g1.trans g2⟩
  · obtain rfl : t = catT (some ⟨w.heap.size, 0, none⟩) := by simpa using ht
    refine ⟨(by show 4 ≤ 9223372036854775807; decide), .inr ⟨w.heap.size, 0, rfl, (Array.getElem?_eq_some_iff.1 b1').1, fun i hi => ?_⟩⟩
    have hi4 : i < 4 := hi
    obtain rfl | rfl | rfl | rfl : i = 0 ∨ i = 1 ∨ i = 2 ∨ i = 3 := by omega
    all_goals exact ⟨cell_of_row _ _ _ _ _ _ b1', cell_of_row _ _ _ _ _ _ b1', cell_of_row _ _ _ _ _ _ b1'⟩
  · obtain rfl : i = 0 := by have : i < 1 := hi; omega
    exact ⟨cell_of_row _ _ _ _ _ _ b2, cell_of_row _ _ _ _ _ _ b2, cell_of_row _ _ _ _ _ _ b2⟩
end Go.Proofs.YtpklajadfbigcaaGreatDoor
namespace Go.Proofs.YtpklajadfbigcaaGreatDoor
open Go.RowKit
def rowV (a : Int) (d : Vv) : List Vv := [⟨2, a, ⟨#[]⟩⟩, ⟨3, 0, ⟨#[]⟩⟩, ⟨0, 0, ⟨#[]⟩⟩, d]
end Go.Proofs.YtpklajadfbigcaaGreatDoor
namespace Go.Proofs.YtpklajadfbigcaaGreatDoor
open Go.RowKit
set_option linter.unusedVariables false
end Go.Proofs.YtpklajadfbigcaaGreatDoor
