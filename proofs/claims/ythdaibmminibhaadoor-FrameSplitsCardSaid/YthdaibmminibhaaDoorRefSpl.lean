/- The contract of the document's Split. -/
import Derived.Test.YthdaibmminibhaaDoorSplit5
import Derived.Test.YthdaibmminibhaaDoorRefFr
namespace Go.Proofs.YthdaibmminibhaaDoor
open Go.RowKit

set_option maxRecDepth 100000 in
set_option maxHeartbeats 6400000 in
theorem refSplit_any (a : Option Addr) (l : List UInt8) (cap : Nat) (w : World) (h : BAt w.heap.size w a l) (hc : l.length ≤ cap) (hm : cap ≤ 9223372036854775807) (hlen : l.length ≤ 200020) :
    Calls Tryd.prog 39 #[.slice a l.length cap] w (SplPost w (splL l)) := by
  have HE := Lib.hid (fun (W : World) (hW : Below w.heap.size w W) (ad : Option Addr) (r : List UInt8) (hb : BAt w.heap.size w ad r) => ((hb.keep (grown_below hW none) (by simp)).mono hW.size : BAt W.heap.size W ad r))
  have B0 := Lib.hid h
  obtain ⟨X, hX⟩ : ∃ X, X = splL l := ⟨_, rfl⟩
  have HX : Hid (X = comb (([] : List Pc).map Pc.l) (splL l)) := Lib.hid (by rw [hX]; exact comb_nil l)
  rw [← hX]
  obtain ⟨i0, hi, hz0, hz1, hz2⟩ := info_parts pc_info
  clear h hX
  go_enter Tryd.func39, Tryd.ntmps39
  go_wp2_with fail
  go_loopw [0, 4] (fun bv ov wr => ∃ (ad : Option Addr) (r : List UInt8) (rc : Nat) (ps : List Pc), bv = .slice ad r.length rc ∧ r.length ≤ 200020 ∧ r.length ≤ rc ∧ rc ≤ 9223372036854775807 ∧ ps.length + r.length ≤ 200020 ∧ Hid (BAt w.heap.size w ad r) ∧ Hid (OwnP w.heap.size wr ov ps) ∧ Hid (Below w.heap.size w wr) ∧ Hid (X = comb (ps.map Pc.l) (splL r))) (fun bv _ _ => lenS bv)
  case atStart => exact ⟨a, l, cap, [], rfl, hlen, hc, hm, by simpa using hlen, B0, Lib.hid (OwnP.nil _ _), Lib.hid (Below.refl _ _), HX⟩
  case round =>
    obtain ⟨ad, r, rc, ps, rfl, hr2, hrc, hrm, hpr, BT, O, K, EX⟩ := hrel
    by_cases hr0 : r = []
    · subst hr0
      have HY : Hid (X = (0, ps.map Pc.l)) := Lib.hid (by rw [EX.out, comb_done])
      simp only [List.length_nil]
      go_wp2_with fail
      go_ret2
      exact ⟨_, ps, by rw [HY.out]; rfl, by rw [HY.out], O.out, K.out⟩
    · have hpos : (0 : Int) < (r.length : Int) := by
        have : r.length ≠ 0 := fun h => hr0 (List.length_eq_zero_iff.1 h)
        omega
      cases hn : msr r with
      | none =>
        have HY : Hid (X = (2, [])) := Lib.hid (by rw [EX.out, comb_none hr0 hn])
        have HC := Lib.hid (refTake_no ad r rc wr (HE.out _ K.out ad r BT.out) hrc hrm hn)
        clear hn hr0
        generalize r.length = m at *
        go_wp2_with fail
        refine HC.out.mono ?_
        rintro e w1 ⟨rfl, rfl⟩
        go_wp2_with fail
        go_ret2
        rw [HY.out]
        exact SplPost.err rfl K.out
      | some x =>
        obtain ⟨f, t⟩ := x
        obtain ⟨h1, h2, h3⟩ := msr_some hn
        obtain ⟨b, off, rfl, _, _⟩ := BT.out.at (i := 0) (by omega)
        have HC := Lib.hid (refTake_yes b off r rc f t wr (HE.out _ K.out _ r BT.out) hrc hrm hn)
        by_cases hs : (r.drop t).take 4 = Crc.le4 (Crc.crc (r.take t))
        · have HC2 := Lib.hid (HC.out.mono (fun e w' h => And.intro (h.1 hs) h.2.2))
          have HY : Hid (X = comb (ps.map Pc.l ++ [(r.take t).drop f]) (splL (r.drop (t + 4)))) := Lib.hid (by rw [EX.out, comb_step hr0 hn hs])
          have hI := (BT.out.pre2 (k := t) (by omega)).sub (q := f) (cap := rc) (by rw [List.length_take]; omega) (by rw [List.length_take]; omega)
          rw [if_neg (show ¬ rc = f by omega)] at hI
          have HI := Lib.hid hI
          have hlI : ((r.take t).drop f).length = t - f := by rw [List.length_drop, List.length_take]; omega
          have HlI := Lib.hid hlI
          have hsub := BT.out.sub (q := t + 4) (cap := rc) (by omega) hrc
          have hld : (r.drop (t + 4)).length = r.length - (t + 4) := List.length_drop
          have HSub := Lib.hid hsub
          have Hld := Lib.hid hld
          generalize (r.take t).drop f = x at *
          obtain ⟨n, hnn⟩ : ∃ n, n = t - f := ⟨_, rfl⟩
          rw [← hnn] at HC2 HlI
          obtain ⟨ln, hln⟩ : ∃ ln, ln = r.length := ⟨_, rfl⟩
          rw [← hln] at hpos HC2 h3 hr2 hrc hpr Hld ⊢
          have hss : w.heap.size ≤ wr.heap.size := K.out.size
          clear hn hs hI hlI hr0 hsub hld HC hln hnn
          have j1 : (t : Int) + 4 ≤ ln := by omega
          have j2 : (ln : Int) ≤ rc := by omega
          have j3 : (t : Int) + 4 ≤ rc := by omega
          go_wp2_with fail
          refine HC2.out.mono ?_
          rintro e w2 ⟨rfl, hg⟩
          have L2 := Lib.hid (below_grown hg)
          have K2 := Lib.hid (K.out.trans (L2.out.mono K.out.size))
          have O2 := Lib.hid (O.out.stay L2.out)
          have hs2 : w.heap.size ≤ w2.heap.size := K2.out.size
          have PK : Hid (POk w2 u4 ⟨some ⟨b, off + f, none⟩, rc - f, x⟩) := Lib.hid ((HI.out.keep (grown_below K2.out none) (by simp)).pok hs2 (fun k hk => (World.ownsRow.lt O2.out.1 k hk).1) _)
          clear hg
          go_wp2_with (at_builtin; refine wpList_append_own_at _ rfl _ _ 74 rfl w.heap.size 32 i0 (.slice none 0 0) 1 24 Tryd.underlying74 hi hz0 hz1 hz2 rfl (by decide) _ _ _ rfl (World.ownsRow.alloc O2.out.1 _) ⟨w2.heap.size, 0, none⟩ 1 1 [.slice (some ⟨b, off + f, none⟩) n (rc - f)] rfl rfl ?c1 ?c2 ?c3 ?c4 ?c5 ?_)
          case c1 => exact cell_one_new _ _ _
          case c2 => intro u hu; simp at hu; subst hu; rfl
          case c3 => unfold maxLen; omega
          case c4 => omega
          case c5 => simp; omega
          intro v' w3 hown' hgrow _ hat
          have hat2 : v'.ownBlock = u4.ownBlock ∨ ∃ k, v'.ownBlock = some k ∧ w2.heap.size ≤ k := hat.imp id (fun h => ⟨_, h, by simp⟩)
          have hgr2 := (World.grownBy_alloc w2 (.cells #[.slice (some ⟨b, off + f, none⟩) n (rc - f)] 32) _).trans hgrow
          have keepR : ∀ r, POk w2 u4 r → POk w3 v' r := fun r hr => hr.keep hgr2 (fun k hk => hk) hat2
          have O3 := Lib.hid (OwnP.more (x := ⟨some ⟨b, off + f, none⟩, rc - f, x⟩) (by unfold Pc.v; rw [HlI.out]) hown' (fun r hr => keepR r (O2.out.2 r hr)) (keepR _ PK.out))
          have K3 := Lib.hid (K2.out.grown hgr2 hs2 (fun k hk => (World.ownsRow.lt O2.out.1 k hk).1))
          clear hown' hgrow hat hat2 hgr2 keepR
          by_cases hcap : rc = t + 4
          · have hs' := HSub.out
            rw [if_pos hcap] at hs'
            have HS' := Lib.hid hs'
            have j4 : (rc : Int) = t + 4 := by omega
            clear hs'
            go_wp2_with fail
            go_roundw
            case rel =>
              exact ⟨some ⟨b, off, none⟩, r.drop (t + 4), t + 4 - (t + 4), ps ++ [⟨some ⟨b, off + f, none⟩, rc - f, x⟩], by rw [Hld.out], by rw [Hld.out]; omega, by rw [Hld.out]; omega, by omega, by rw [List.length_append, Hld.out, List.length_singleton]; omega, HS', O3, K3, Lib.hid (by rw [HY.out]; simp)⟩
            case measure => simp [lenS]; omega
          · have hs' := HSub.out
            rw [if_neg hcap] at hs'
            have HS' := Lib.hid hs'
            have j4 : ¬ (rc : Int) = t + 4 := by omega
            clear hs'
            go_wp2_with fail
            go_roundw
            case rel =>
              exact ⟨some ⟨b, off + (t + 4), none⟩, r.drop (t + 4), rc - (t + 4), ps ++ [⟨some ⟨b, off + f, none⟩, rc - f, x⟩], by rw [Hld.out], by rw [Hld.out]; omega, by rw [Hld.out]; omega, by omega, by rw [List.length_append, Hld.out, List.length_singleton]; omega, HS', O3, K3, Lib.hid (by rw [HY.out]; simp)⟩
            case measure => simp [lenS]; omega
        · have HC2 := Lib.hid (HC.out.mono (fun e w' h => And.intro (h.2.1 hs) h.2.2))
          have HY : Hid (X = (4, [])) := Lib.hid (by rw [EX.out, comb_sum hr0 hn hs])
          generalize r.length = m at *
          clear hn hs hr0 HC
          go_wp2_with fail
          refine HC2.out.mono ?_
          rintro e w1 ⟨rfl, hg⟩
          have K1 := Lib.hid (K.out.trans ((below_grown hg).mono K.out.size))
          clear hg
          go_wp2_with fail
          go_ret2
          rw [HY.out]
          exact SplPost.err rfl K1.out
end Go.Proofs.YthdaibmminibhaaDoor
