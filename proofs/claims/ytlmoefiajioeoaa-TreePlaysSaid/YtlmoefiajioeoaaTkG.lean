/- The document's Get and From at pairs. -/
import Derived.Test.YtlmoefiajioeoaaTk
import Derived.Deep.DeepCutAuto
namespace Go.Proofs.Ytlmoefiajioeoaa
open Go.RowKit

set_option maxRecDepth 100000 in
set_option maxHeartbeats 3200000 in
theorem refGet_any (S : Nat → Prop) (a ka : Ptr) (cap kc : Nat) (l : List Pw) (key : List Vl) (w : World) (h : PsS S w a l) (hcap : l.length ≤ cap) (hk : RowAt w ka key) :
    Calls Try.prog 36 #[.slice a l.length cap, .slice ka key.length kc] w fun e w' => ((∃ x ∈ l, e = .returned (.tuple #[x.r.v, .bool true]) ∧ lookL key (l.map Pw.p) = some x.r.l) ∨ (e = .returned (.tuple #[.slice none 0 0, .bool false]) ∧ lookL key (l.map Pw.p) = none)) ∧ w.grownBy w' none := by
  have H := Lib.hid h
  have HS := Lib.hid (fun i (hi : i < l.length) W (hW : w.grownBy W none) => (refSame_any (l.getD i default).k.a ka (l.getD i default).k.cap kc (l.getD i default).k.l key W ((h.mem hi).1.keep (.of hW)).row (hk.keep (below_grownT hW))).mono fun e w' h => And.intro h.1 (grown_belowT h.2 none))
  have hl := h.1
  obtain ⟨n, hn⟩ : ∃ n, n = l.length := ⟨_, rfl⟩
  have Hn := Lib.hid hn
  rw [← hn] at hcap HS hl ⊢
  generalize key.length = m at *
  clear h hk hn
  go_enter Try.func36, Try.ntmps36
  go_wp2_with fail
  go_loopw [9] (fun i wr => ∃ (j : Nat), i = .int .i64 j ∧ j ≤ n ∧ Hid ((∀ x ∈ l.take j, rowsOrd x.k.l key ≠ 0) ∧ w.grownBy wr none)) (fun i _ => n - (intOf i).toNat)
  case atStart => exact ⟨0, rfl, by omega, Lib.hid ⟨by simp, grown_reflT _ _⟩⟩
  case round =>
    obtain ⟨j, rfl, hj, I⟩ := hrel
    by_cases hlt : j < n
    · have hjl : j < l.length := by rw [← Hn.out]; exact hlt
      obtain ⟨b, off, rfl, hb, c0, c1⟩ := (H.out.keep (.of I.out.2)).at (i := j) hjl
      have HS1 := Lib.hid (HS.out j hlt wr I.out.2)
      have HJ := Lib.hid (And.intro hjl I.out)
      obtain ⟨x, hx⟩ : ∃ x, x = l.getD j default := ⟨_, rfl⟩
      have HX := Lib.hid hx
      rw [← hx] at c0 c1 HS1
      clear hx I hjl
      obtain ⟨⟨xka, xkc, xkl⟩, ⟨xra, xrc, xrl⟩⟩ := x
      simp only [Rw.v] at c0 c1 HS1
      have i1 : (j : Int) ≤ cap := by omega
      obtain ⟨y, hy⟩ : ∃ y, y = xkl.length := ⟨_, rfl⟩
      obtain ⟨z, hz⟩ : ∃ z, z = xrl.length := ⟨_, rfl⟩
      have Hz := Lib.hid hz
      rw [← hy] at c0 HS1
      rw [← hz] at c1
      clear hy hz
      have F := Lib.hid (fun (W : World) (hW : wr.grownBy W none) => hW.cell c1 (by simp))
      by_cases he : rowsOrd xkl key = 0
      · have hb1 : (rowsOrd xkl key == 0) = true := by simp [he]
        rw [hb1] at HS1
        have He := Lib.hid he
        clear hb1 he
        go_wp2_with fail
        refine HS1.out.mono ?_
        rintro e w2 ⟨rfl, hg2⟩
        have d1 := F.out _ hg2
        have G2 := Lib.hid hg2
        clear hg2 c0 c1
        go_wp2_with fail
        go_ret2
        refine ⟨.inl ⟨⟨⟨xka, xkc, xkl⟩, ⟨xra, xrc, xrl⟩⟩, ?_, ?_, ?_⟩, HJ.out.2.2.trans G2.out⟩
        · have hjl := HJ.out.1
          rw [HX.out]; simp [List.getD, hjl]
        · rw [Hz.out]; rfl
        · have := look_hit HJ.out.1 HJ.out.2.1 (by rw [← HX.out]; exact He.out)
          rw [← HX.out] at this
          exact this
      · have hb1 : (rowsOrd xkl key == 0) = false := by simp [he]
        rw [hb1] at HS1
        have He := Lib.hid he
        clear hb1 he
        go_wp2_with fail
        refine HS1.out.mono ?_
        rintro e w2 ⟨rfl, hg2⟩
        have G2 := Lib.hid hg2
        clear hg2 c0 c1
        go_wp2_with fail
        go_roundw
        case rel =>
          refine ⟨j + 1, by go_num, by omega, Lib.hid ⟨fun x hx => ?_, HJ.out.2.2.trans G2.out⟩⟩
          rw [take_at HJ.out.1, ← HX.out, List.mem_append] at hx
          rcases hx with hx | hx
          · exact HJ.out.2.1 x hx
          · obtain rfl := List.mem_singleton.1 hx
            exact He.out
        case measure => simp [intOf]; omega
    · obtain rfl : j = n := by omega
      go_wp2_with fail
      go_ret2
      have h1 := I.out.1
      rw [Hn.out, List.take_length] at h1
      exact ⟨.inr ⟨rfl, look_none h1⟩, I.out.2⟩
theorem row_infoT : (Try.prog.info? 24).map (fun i => (i.zero, i.size, i.bytes)) = some (some (.slice none 0 0), 1, 24) := by kernel_rfl
theorem take_more7 {F : List Rw} {x : Rw} {N : Nat} : (F ++ [x]).take N = if (F.take N).length < N then F.take N ++ [x] else F.take N := by
  rw [List.length_take]
  by_cases h : F.length < N
  · rw [if_pos (by omega), List.take_of_length_le (by simp; omega), List.take_of_length_le (by omega)]
  · rw [if_neg (by omega), List.take_append_of_le_length (by omega)]
set_option maxRecDepth 100000 in
set_option maxHeartbeats 6400000 in
theorem refFrom_any (S : Nat → Prop) (a ka : Ptr) (cap kc : Nat) (l : List Pw) (key : List Vl) (N : Int) (w : World) (h : PsS S w a l) (hcap : l.length ≤ cap) (hk : RowAt w ka key) (hkg : key.all Vl.good = true) (hlg : ∀ x ∈ l, x.k.l.all Vl.good = true) :
    Calls Try.prog 16 #[.slice a l.length cap, .slice ka key.length kc, .int .i64 N] w fun e w' => (∃ v, e = .returned v ∧ w'.ownsRow w.heap.size 24 1 v ((fromP key l).take N.toNat).length (((fromP key l).take N.toNat).map Rw.v)) ∧ w.grownBy w' none := by
  have H := Lib.hid h
  have HS := Lib.hid (fun i (hi : i < l.length) W (hW : w.grownBy W none) => (refRows_any (l.getD i default).k.a ka (l.getD i default).k.cap kc (l.getD i default).k.l key W ((h.mem hi).1.keep (.of hW)).row (hk.keep (below_grownT hW)) (hlg _ (by simp [List.getD, hi])) hkg).mono fun e w' h => And.intro h.1 (grown_belowT h.2 none))
  have hl := h.1
  obtain ⟨n, hn⟩ : ∃ n, n = l.length := ⟨_, rfl⟩
  have Hn := Lib.hid hn
  rw [← hn] at hl hcap HS ⊢
  generalize key.length = m at *
  obtain ⟨i0, hi, hz0, hz1, hz2⟩ := info_partsT row_infoT
  clear h hk hn hkg hlg
  go_enter Try.func16, Try.ntmps16
  go_wp2_with fail
  go_loopw [7, 11] (fun s i wr => ∃ (ao : Ptr) (q co j : Nat), s = .slice ao q co ∧ i = .int .i64 j ∧ j ≤ n ∧ q ≤ j ∧ Hid (((fromP key (l.take j)).take N.toNat).length = q ∧ wr.ownsRow w.heap.size 24 1 (.slice ao q co) q (((fromP key (l.take j)).take N.toNat).map Rw.v) ∧ w.grownBy wr none)) (fun _ i _ => n - (intOf i).toNat)
  case atStart => exact ⟨none, 0, 0, 0, rfl, rfl, by omega, by omega, Lib.hid ⟨by simp [fromP], by simpa [fromP] using World.ownsRow_nil w w.heap.size 24 1, grown_reflT _ _⟩⟩
  case round =>
    obtain ⟨ao, q, co, j, rfl, rfl, hj, hqj, I⟩ := hrel
    by_cases hlt : j < n
    · obtain ⟨hq, hown, hgr⟩ := I.out
      have hjl : j < l.length := by rw [← Hn.out]; exact hlt
      obtain ⟨b, off, rfl, hb, c0, c1⟩ := (H.out.keep (.of hgr)).at (i := j) hjl
      have HS1 := Lib.hid (HS.out j hlt wr hgr)
      have HE := Lib.hid (fromP_step (key := key) (l := l) (j := j) hjl)
      obtain ⟨x, hx⟩ : ∃ x, x = l.getD j default := ⟨_, rfl⟩
      rw [← hx] at c0 c1 HS1 HE
      clear hx hjl
      obtain ⟨⟨xka, xkc, xkl⟩, ⟨xra, xrc, xrl⟩⟩ := x
      simp only [Rw.v] at c0 c1 HS1
      have D := Lib.hid (And.intro hq (And.intro hown hgr))
      have hB : w.heap.size ≤ wr.heap.size := hgr.size
      have i1 : (j : Int) ≤ cap := by omega
      clear hown hgr I hq
      obtain ⟨y, hy⟩ : ∃ y, y = xkl.length := ⟨_, rfl⟩
      obtain ⟨z, hz⟩ : ∃ z, z = xrl.length := ⟨_, rfl⟩
      have Hz := Lib.hid hz
      rw [← hy] at c0 HS1
      rw [← hz] at c1
      clear hy hz
      have F := Lib.hid (fun (W : World) (hW : wr.grownBy W none) => hW.cell c1 (by simp))
      by_cases he : rowsOrd xkl key < 0
      · rw [if_pos he, List.append_nil] at HE
        generalize rowsOrd xkl key = c at *
        have hc : ¬ 0 ≤ c := by omega
        clear he
        go_wp2_with fail
        refine HS1.out.mono ?_
        rintro e w2 ⟨rfl, hg2⟩
        have G2 := Lib.hid hg2
        clear hg2
        go_wp2_with fail
        go_roundw
        case rel => exact ⟨ao, q, co, j + 1, rfl, by go_num, by omega, by omega, Lib.hid (by rw [HE.out]; exact ⟨D.out.1, World.ownsRow.kept D.out.2.1 G2.out (by cases (Value.slice ao q co).ownBlock <;> simp), D.out.2.2.trans G2.out⟩)⟩
        case measure => simp [intOf]; omega
      · rw [if_neg he] at HE
        generalize rowsOrd xkl key = c at *
        have hc : 0 ≤ c := by omega
        have HT := Lib.hid (take_more7 (F := fromP key (l.take j)) (x := ⟨xra, xrc, xrl⟩) (N := N.toNat))
        clear he
        by_cases hqN : (q : Int) < N
        · have O2 := Lib.hid (fun W (hW : wr.grownBy W none) => World.ownsRow.kept D.out.2.1 hW (by cases (Value.slice ao q co).ownBlock <;> simp))
          go_wp2_with fail
          refine HS1.out.mono ?_
          rintro e w2 ⟨rfl, hg2⟩
          have G2 := Lib.hid hg2
          have d1 := F.out _ hg2
          have hB2 : w.heap.size ≤ w2.heap.size := Nat.le_trans hB hg2.size
          clear hg2 c0 c1
          go_wp2_with (at_builtin; refine wpList_append_lies _ rfl _ _ 38 rfl w.heap.size 24 i0 (.slice none 0 0) 1 24 Try.underlying38 hi hz0 hz1 hz2 rfl (by decide) (.slice ao q co) q (((fromP key (l.take j)).take N.toNat).map Rw.v) rfl (World.ownsRow.alloc (O2.out _ G2.out) _) ⟨w2.heap.size, 0, none⟩ 1 1 [.slice xra z xrc] rfl rfl (World.news_of_block (heap_alloc_new w2 _)) (by intro u hu; obtain rfl := List.mem_singleton.1 hu; rfl) (by decide) (by unfold maxLen; omega) (by omega) (by simp; omega) _ rfl ?_)
          intro g cp w4 hown4 hgrow4 hgb hg4
          have E4 := Lib.hid (And.intro hown4 hgrow4)
          clear hown4 hgrow4 hgb hg4
          go_wp2_with fail
          go_roundw
          case rel =>
            obtain ⟨hq, hown, hgr⟩ := D.out
            obtain ⟨hown4, hgrow4⟩ := E4.out
            have e : (fromP key (l.take (j + 1))).take N.toNat = (fromP key (l.take j)).take N.toNat ++ [⟨xra, xrc, xrl⟩] := by
              rw [HE.out, HT.out, if_pos (by rw [hq]; omega)]
            refine ⟨some ⟨g, 0, none⟩, q + 1, cp, j + 1, rfl, by go_num, by omega, by omega, Lib.hid ⟨by rw [e, List.length_append, hq]; rfl, ?_, ?_⟩⟩
            · rw [e, List.map_append, List.map_take]
              rw [Hz.out] at hown4
              exact hown4
            · exact grown_thenT ((hgr.trans G2.out).trans (World.grownBy_alloc w2 _ none)) hgrow4 (fun b hb => (World.ownsRow.lt hown b hb).1)
          case measure => simp [intOf]; omega
        · go_wp2_with fail
          refine HS1.out.mono ?_
          rintro e w2 ⟨rfl, hg2⟩
          have G2 := Lib.hid hg2
          clear hg2
          go_wp2_with fail
          go_roundw
          case rel =>
            obtain ⟨hq, hown, hgr⟩ := D.out
            have e : (fromP key (l.take (j + 1))).take N.toNat = (fromP key (l.take j)).take N.toNat := by
              rw [HE.out, HT.out, if_neg (by rw [hq]; omega)]
            exact ⟨ao, q, co, j + 1, rfl, by go_num, by omega, by omega, Lib.hid (by rw [e]; exact ⟨hq, World.ownsRow.kept hown G2.out (by cases (Value.slice ao q co).ownBlock <;> simp), hgr.trans G2.out⟩)⟩
          case measure => simp [intOf]; omega
    · obtain rfl : j = n := by omega
      go_wp2_with fail
      go_ret
      obtain ⟨hq, hown, hgr⟩ := I.out
      rw [Hn.out, List.take_length] at hq hown
      exact ⟨⟨_, rfl, by rw [hq]; exact hown⟩, hgr⟩
end Go.Proofs.Ytlmoefiajioeoaa
