/- The law TreeStays walked. -/
import Derived.Test.YtlmoefiajioeoaaTkH
import Derived.Deep.RegionWith
namespace Go.Proofs.Ytlmoefiajioeoaa
open Go.RowKit

theorem ptr_info7 : (Try.prog.info? 28).map (fun i => (i.zero, i.size, i.bytes)) = some (some (.pointer none), 1, 8) := by kernel_rfl
theorem prs_info7 : (Try.prog.info? 29).map (fun i => (i.zero, i.size, i.bytes)) = some (some (.slice none 0 0), 1, 24) := by kernel_rfl
/-- An act's rows, in whatever world has grown from the one in which they came. -/
theorem act_rows {w W : World} {S : Nat → Prop} {a : Ptr} {l : List Vl} (h : RowAt w a l) (hl : l.length ≤ 10) (hg : w.grownBy W none) (hS : ∀ b, b < w.heap.size → S b) : RwS S W a l :=
  (((h.rws hl).mono (S' := fun b => b < w.heap.size) (fun _ hlt _ => hlt)).keep (w' := W) (.of hg)).mono (fun _ _ hlt => hS _ hlt)
theorem Hist.cell {B : Nat} {W : World} {x y : Ptr} {i c d : Nat} {hs : List St} (h : Hist B W x y i c d hs) {j : Nat} (hj : j < i) : ∃ (g g' : Nat) (s : St), s ∈ hs ∧ x = some ⟨g, 0, none⟩ ∧ y = some ⟨g', 0, none⟩ ∧ i ≤ c ∧ i ≤ d ∧ W.cell? ⟨g, j, none⟩ = some (.pointer s.p) ∧ W.cell? ⟨g', j, none⟩ = some (.slice s.a s.l.length s.cap) := by
  have hjl : j < hs.length := by rw [h.len]; exact hj
  rcases h.own3.2 with ⟨_, h0⟩ | ⟨g, cc, cur, e, _, _, hc, _⟩
  · omega
  rcases h.own4.2 with ⟨_, h0⟩ | ⟨g', cc', cur', e', _, _, hc', _⟩
  · omega
  cases e
  cases e'
  have c0 := h.own3.cells (g := g) rfl j (hs[j]).pv (by simp [hjl])
  have c1 := h.own4.cells (g := g') rfl j (hs[j]).lv (by simp [hjl])
  rw [add_atT, Nat.zero_add] at c0 c1
  exact ⟨g, g', hs[j], List.getElem_mem hjl, rfl, rfl, hc, hc', c0, c1⟩
set_option maxRecDepth 100000 in
set_option maxHeartbeats 12800000 in
theorem TreeStays_any (a : Ptr) (cap : Nat) (l : List Aw) (w : World) (h : AcAt w a l) (hcap : l.length ≤ cap) :
    Calls Try.prog 4 #[.slice a l.length cap] w fun e w' => e = .returned (.bool true) ∧ Below w.heap.size w w' := by
  have HA := Lib.hid awake7_any
  have H := Lib.hid h
  have HF := Lib.hid (fun W (hW : w.grownBy W none) => Fits_any a cap l W (h.keep (below_grownT hW)) hcap)
  obtain ⟨n, hn⟩ : ∃ n, n = l.length := ⟨_, rfl⟩
  have Hn := Lib.hid hn
  rw [← hn] at hcap HF ⊢
  have hnb : n ≤ 9223372036854775807 := by rw [hn]; exact h.1
  clear h hn
  go_enter Try.func4, Try.ntmps4
  go_wp2_with fail
  refine (HA.out _).mono ?_
  rintro e w1 ⟨rfl, hg1⟩
  have G1 := Lib.hid hg1
  clear hg1
  go_wp2_with fail
  refine (HF.out _ G1.out).mono ?_
  rintro e w2 ⟨⟨b, rfl, hfit⟩, hg2⟩
  have G2 := Lib.hid (G1.out.trans hg2)
  clear hg2 G1
  by_cases hgo : b = true ∧ n ≤ 40
  · obtain ⟨hb, hn40⟩ := hgo
    subst hb
    have HFit := Lib.hid (hfit rfl).2
    have hn40' : ¬ (40 : Int) < n := by omega
    clear hfit
    go_wp2_with fail
    go_loopw [3, 4, 5, 6, 25] (fun s3 s4 s5 s6 s25 wr => ∃ (x y p pa : Ptr) (i c d q pc : Nat), s3 = .slice x i c ∧ s4 = .slice y i d ∧ s5 = .pointer p ∧ s6 = .slice pa q pc ∧ s25 = .int .i64 i ∧ i ≤ n ∧ Hid (∃ (hs : List St) (t : Tre) (m : List Pw), m.length = q ∧ Hist w.heap.size wr x y i c d hs ∧ St.at (Sx x y) wr ⟨t, p, pa, pc, m⟩ ∧ Eq7 t m i ∧ w.grownBy wr none)) (fun _ _ _ _ s25 _ => n - (intOf s25).toNat)
    case atStart => exact ⟨none, none, none, none, 0, 0, 0, 0, 0, rfl, rfl, rfl, rfl, rfl, by omega, Lib.hid ⟨[], .nil, [], rfl, Hist.nil _ _, ⟨rfl, ⟨by simp, by simp, .inl rfl⟩, by simp, Eq7.nil.mono (by omega)⟩, Eq7.nil, G2.out⟩⟩
    case round =>
      obtain ⟨x, y, p, pa, i, c, d, q, pc, rfl, rfl, rfl, rfl, rfl, hi, I⟩ := hrel
      by_cases hlt : i < n
      · obtain ⟨hs, t, m, hm, hh, hst, he, hg⟩ := I.out
        have hil : i < l.length := by rw [← Hn.out]; exact hlt
        obtain ⟨⟨b, off, rfl, c0, c1, c2⟩, hk, hr⟩ := (H.out.keep (below_grownT hg)).at (i := i) hil
        obtain ⟨_, hk0, hr0⟩ := H.out.at (i := i) hil
        have hfa := HFit.out _ (show l.getD i default ∈ l by simp [List.getD, hil])
        obtain ⟨z, hz⟩ : ∃ z, z = l.getD i default := ⟨_, rfl⟩
        rw [← hz] at c0 c1 c2 hk hr hk0 hr0 hfa
        clear hz hil
        obtain ⟨dl, ⟨ka, kc, kl⟩, ⟨ra, rc, rl⟩⟩ := z
        simp only [Rw.v] at c0 c1 c2 hk hr hk0 hr0
        obtain ⟨hf1, hf2, hf3, _, _⟩ := hfa
        simp only at hf1 hf2 hf3
        have G3 := Lib.hid (World.grownBy_alloc wr (cA dl ka kl.length kc ra rl.length rc) none)
        have hsx := hh.sx
        have hsx2 : ∀ b, b < w.heap.size → Sx x y b := fun b hb => ⟨fun e => by have := (hh.lt.1 b e).1; omega, fun e => by have := (hh.lt.2 b e).1; omega⟩
        have hDo := Do_any (Sx x y) (Sx x y) t p pa ka ra pc kc rc dl m kl rl (wr.alloc (cA dl ka kl.length kc ra rl.length rc)) (fun b hb => hsx b (Nat.le_trans G3.out.size hb)) (fun b hb => hsx b (Nat.le_trans G3.out.size hb)) (hst.1.keep (.of G3.out)) (hst.2.1.keep (.of G3.out)) hst.2.2.1 (act_rows hk0 hf1 (hg.trans G3.out) hsx2) (act_rows hr0 hf2 (hg.trans G3.out) hsx2) hf3 he.good he.sort (by have := he.n; have := he.few; simp only at *; omega) (by have := he.few; omega)
        have he' := he.act dl (K := ⟨ka, kc, kl⟩) ⟨ra, rc, rl⟩ hf3
        unfold Done at hDo
        generalize doT dl ⟨ka, kc, kl⟩ ⟨ra, rc, rl⟩ t = t' at *
        generalize doP dl ⟨ka, kc, kl⟩ ⟨ra, rc, rl⟩ m = m' at *
        rw [hm] at hDo
        obtain ⟨q', hq'⟩ : ∃ q', q' = m'.length := ⟨_, rfl⟩
        rw [← hq'] at hDo
        obtain ⟨ky, hky⟩ : ∃ ky, ky = kl.length := ⟨_, rfl⟩
        obtain ⟨rz, hrz⟩ : ∃ rz, rz = rl.length := ⟨_, rfl⟩
        rw [← hky, ← hrz] at hDo G3
        rw [← hky] at c1
        rw [← hrz] at c2
        have HD := Lib.hid hDo
        have HH := Lib.hid (And.intro hh (And.intro hg (And.intro he' hq')))
        have i1 : (i : Int) ≤ cap := by omega
        have i2 : (0 : Int) ≤ (i : Int) := Int.natCast_nonneg _
        clear hDo hh hst he he' hg hk hr hk0 hr0 hf1 hf2 hf3 hsx hsx2 I hm hq' hky hrz
        go_wp2_with fail
        refine HD.out.mono ?_
        rintro e w3 ⟨⟨p', pa', pc', rfl, hc', ht', hp'⟩, hg3⟩
        have HK := Lib.hid (HH.out.1.keep (G3.out.trans hg3))
        have HS := Lib.hid (show St.at (Sx x y) w3 ⟨t', p', pa', pc', m'⟩ from ⟨ht', hp', by rw [← HH.out.2.2.2]; exact hc', HH.out.2.2.1.mono (by omega)⟩)
        have GW := Lib.hid (HH.out.2.1.trans (G3.out.trans hg3))
        have hB3 : w.heap.size ≤ w3.heap.size := GW.out.size
        clear hc' ht' hp' hg3 HD c0 c1 c2
        obtain ⟨i0, hi0, hz0, hz1, hz2⟩ := info_partsT ptr_info7
        obtain ⟨j0, hj0, hy0, hy1, hy2⟩ := info_partsT prs_info7
        go_wp2_with (at_builtin; refine wpList_append_lies _ rfl _ _ 43 rfl w.heap.size 28 i0 (.pointer none) 1 8 Try.underlying43 hi0 hz0 hz1 hz2 rfl (by decide) (.slice x i c) i (hs.map St.pv) rfl (World.ownsRow.alloc HK.out.own3 _) ⟨w3.heap.size, 0, none⟩ 1 1 [.pointer p'] rfl rfl (World.news_of_block (heap_alloc_new w3 _)) (by intro u hu; obtain rfl := List.mem_singleton.1 hu; rfl) (by decide) (by unfold maxLen; omega) (by omega) (by simp; omega) _ rfl ?_)
        intro g1 c1 w4 hown4 hgrow4 hat4 hlt4
        have E4 := Lib.hid (And.intro hown4 (And.intro hgrow4 (And.intro hat4 hlt4)))
        have hB4 : w.heap.size ≤ w4.heap.size := by have := hgrow4.size; simp at this; omega
        have hO4 := Lib.hid (show w4.ownsRow w.heap.size 29 1 (.slice y i d) i (hs.map St.lv) from World.ownsRow.kept (World.ownsRow.alloc HK.out.own4 (.cells #[.pointer p'] 28)) hgrow4 (by
          rw [own_blk, own_blk]
          cases hy : blk y with
          | none => exact .inl rfl
          | some b => exact .inr fun e => HK.out.apart b e.symm hy))
        clear hown4 hgrow4 hat4 hlt4
        go_wp2_with (at_builtin; refine wpList_append_lies _ rfl _ _ 44 rfl w.heap.size 29 j0 (.slice none 0 0) 1 24 Try.underlying44 hj0 hy0 hy1 hy2 rfl (by decide) (.slice y i d) i (hs.map St.lv) rfl (World.ownsRow.alloc hO4.out _) ⟨w4.heap.size, 0, none⟩ 1 1 [.slice pa' q' pc'] rfl rfl (World.news_of_block (heap_alloc_new w4 _)) (by intro u hu; obtain rfl := List.mem_singleton.1 hu; rfl) (by decide) (by unfold maxLen; omega) (by omega) (by simp; omega) _ rfl ?_)
        intro g2 c2 w5 hown5 hgrow5 hat5 hlt5
        have E5 := Lib.hid (And.intro hown5 (And.intro hgrow5 hat5))
        clear hown5 hgrow5 hat5 hlt5 hi0 hz0 hz1 hz2 hj0 hy0 hy1 hy2
        go_wp2_with fail
        go_roundw
        case rel =>
          obtain ⟨e1, e2, e3, e4⟩ := E4.out
          obtain ⟨f1, f2, f3⟩ := E5.out
          rw [own_blk] at e2 e3 f2 f3
          have hq := HH.out.2.2.2
          subst hq
          obtain ⟨r1, r2, r3⟩ := HK.out.push HS.out (World.grownBy_alloc w3 (.cells #[.pointer p'] 28) none) e1 e2 (e3.imp id (fun e => e.trans (by simp))) e4 (World.grownBy_alloc w4 (.cells #[.slice pa' m'.length pc'] 29) none) f1 f2 (f3.imp id (fun e => e.trans (by simp)))
          exact ⟨_, _, p', pa', i + 1, c1, c2, m'.length, pc', rfl, rfl, rfl, rfl, by go_num, by omega, Lib.hid ⟨_, t', m', rfl, r1, r2, HH.out.2.2.1, r3 w GW.out (Nat.le_refl _)⟩⟩
        case measure => simp [intOf]; omega
      · obtain rfl : i = n := by omega
        obtain ⟨hs, t, m, hm, hh, hst, he, hg⟩ := I.out
        have HH := Lib.hid (And.intro hh hg)
        clear I hm hh hst he hg
        generalize hwr : wr = wo at *
        clear hwr
        go_wp2_with fail
        go_loopw [47] (fun s47 wx => ∃ j : Nat, s47 = .int .i64 j ∧ j ≤ i ∧ Hid (wo.grownBy wx none)) (fun s47 _ => i - (intOf s47).toNat)
        case atStart => exact ⟨0, rfl, by omega, Lib.hid (grown_reflT _ _)⟩
        case round =>
          obtain ⟨j, rfl, hj, K⟩ := hrel
          by_cases hjl : j < i
          · obtain ⟨g, g', s, hs1, rfl, rfl, hci, hdi, c0, c1⟩ := HH.out.1.cell hjl
            have hst := HH.out.1.at_ s hs1
            have HT := Lib.hid (fun W (hW : wo.grownBy W none) => Tells_any s.t s.p s.a none s.cap 0 s.l [] W ((hst.1.mono (S' := Any) (fun _ _ _ => trivial)).keep (.of hW)) ((hst.2.1.mono (S' := Any) (fun _ _ _ => trivial)).keep (.of hW)) hst.2.2.1 hst.2.2.2 ⟨by simp, by simp, .inl rfl⟩ (by simp))
            simp only [List.length_nil] at HT
            have d0 := K.out.cell c0 (by simp)
            have d1 := K.out.cell c1 (by simp)
            clear c0 c1 hst hs1
            generalize s.l.length = sl at *
            have k1 : (j : Int) < i := by omega
            have k2 : (0 : Int) ≤ (j : Int) := Int.natCast_nonneg _
            have k3 : (j : Int) ≤ c := by omega
            have k4 : (j : Int) ≤ d := by omega
            have C0 := Lib.hid (grown_drewT K.out)
            go_upto_region 16 with fail
            go_region_with (go_at_call 13; (with_reducible refine (HT.out _ C0.out).mono ?_); rintro e w6 ⟨rfl, hg6⟩; have G6 := Lib.hid (C0.out.trans hg6); clear hg6)
            all_goals
              go_wp2_with fail
              go_roundw
              case rel => exact ⟨j + 1, by go_num, by omega, Lib.hid G6.out⟩
              case measure => simp [intOf]; omega
          · obtain rfl : j = i := by omega
            go_wp2_with fail
            go_ret
            exact ⟨rfl, below_grownT (HH.out.2.trans K.out)⟩
  · have hb' : b = false ∨ (40 : Int) < n := by
      cases b
      · exact .inl rfl
      · exact .inr (by have : ¬ n ≤ 40 := fun h => hgo ⟨rfl, h⟩; omega)
    clear hgo hfit
    rcases hb' with rfl | h40
    · go_wp2_with fail
      refine (HA.out _).mono ?_
      rintro e w3 ⟨rfl, hg3⟩
      have G3 := Lib.hid (G2.out.trans hg3)
      clear hg3
      go_wp2_with fail
      go_ret
      exact ⟨rfl, below_grownT G3.out⟩
    · cases b
      all_goals
        go_wp2_with fail
        refine (HA.out _).mono ?_
        rintro e w3 ⟨rfl, hg3⟩
        have G3 := Lib.hid (G2.out.trans hg3)
        clear hg3
        go_wp2_with fail
        go_ret
        exact ⟨rfl, below_grownT G3.out⟩
end Go.Proofs.Ytlmoefiajioeoaa
