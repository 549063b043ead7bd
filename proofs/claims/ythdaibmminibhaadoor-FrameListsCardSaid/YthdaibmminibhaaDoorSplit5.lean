/- The contract of the program's Split. -/
import Derived.Test.YthdaibmminibhaaDoorPc
import Derived.Test.YthdaibmminibhaaDoorDec5
namespace Go.Proofs.YthdaibmminibhaaDoor
open Go.RowKit

def lenS : Value → Nat
  | .slice _ n _ => n
  | _ => 0
/-- What Split answers: new pieces. -/
def SplPost (w : World) (x : Nat × List (List UInt8)) (e : Ending) (w' : World) : Prop := ∃ v ps, e = .returned (.tuple #[v, .int .i64 x.1]) ∧ ps.map Pc.l = x.2 ∧ OwnP w.heap.size w' v ps ∧ Below w.heap.size w w'
theorem SplPost.err {w w' : World} {c : Nat} {e : Ending} (h : e = .returned (.tuple #[.slice none 0 0, .int .i64 c])) (hb : Below w.heap.size w w') : SplPost w (c, []) e w' := ⟨_, [], h, rfl, OwnP.nil _ _, hb⟩
theorem cut_some2 (G b off : Nat) (l : List UInt8) (cap f t : Nat) (w : World) (h : Env3 G w (some ⟨b, off, none⟩) l cap) (hF : SentF w) (hlen : l.length ≤ 100000000) (hn : msr l = some (f, t)) :
    Calls Tryd.prog 71 #[.slice (some ⟨b, off, none⟩) l.length cap] w fun e w' => ∃ ra rc, e = .returned (.tuple #[.agg #[.slice (some ⟨b, off, none⟩) t cap, .int .i64 f, .slice (some ⟨b, off + t, none⟩) 4 (cap - t)], .slice (some ra) (l.length - (t + 4)) rc, .nilIface])
      ∧ (∀ B W, BAt B W (some ⟨b, off, none⟩) l → BAt B W (some ra) (l.drop (t + 4))) ∧ l.length - (t + 4) ≤ rc ∧ rc ≤ 9223372036854775807 ∧ w.grownBy w' none := by
  have hcl := h.c
  have hcm := h.m
  obtain ⟨h1, h2, h3⟩ := msr_some hn
  by_cases hc : cap = t + 4
  · refine (cut_edge G b off l cap f t w h hF hlen hn hc).mono ?_
    rintro e w' ⟨rfl, hg⟩
    have e0 : l.length - (t + 4) = 0 := by omega
    refine ⟨⟨b, off, none⟩, 0, by rw [e0], fun _ _ _ => ⟨by rw [List.length_drop]; omega, .inl (List.drop_eq_nil_of_le (by omega))⟩, by omega, by omega, hg⟩
  · refine (cut_yes G b off l cap f t w h hF hlen hn hc).mono ?_
    rintro e w' ⟨rfl, hg⟩
    refine ⟨_, _, rfl, fun B W hb => ?_, by omega, by omega, hg⟩
    have hs := hb.sub (q := t + 4) (cap := cap) (by omega) hcl
    rw [if_neg hc] at hs
    exact hs
set_option maxRecDepth 100000 in
set_option maxHeartbeats 6400000 in
theorem split_any (G : Nat) (a : Option Addr) (l : List UInt8) (cap : Nat) (w : World) (h : Env3 G w a l cap) (hF : SentF w) (ht : Turns w) (hlen : l.length ≤ 200020) :
    Calls Tryd.prog 38 #[.slice a l.length cap] w (SplPost w (splL l)) := by
  have HE := Lib.hid (fun (W : World) (hW : Below w.heap.size w W) (ad : Option Addr) (r : List UInt8) (rc : Nat) (hb : BAt w.heap.size w ad r) (hc : r.length ≤ rc) (hm : rc ≤ 9223372036854775807) =>
    (show Env3 G W ad r rc from ⟨(hb.keep (grown_below hW none) (by simp)).mono hW.size, hc, hm, h.s.none (grown_below hW none), h.e.none (grown_below hW none), Nat.le_trans h.g hW.size⟩))
  have HF := Lib.hid (fun (W : World) (hW : Below w.heap.size w W) => hF.keep (grown_below hW none))
  have HT := Lib.hid (fun (W : World) (hW : Below w.heap.size w W) => ht.keep (grown_below hW none))
  have HTL := Lib.hid (fun (t : TypeId) (q : Value) (W : World) (hW : Below w.heap.size w W) => told_len G 2 t q W (h.e.none (grown_below hW none)))
  have HTS := Lib.hid (fun (s : Addr) (W : World) (hW : Below w.heap.size w W) => told_sum G s W (h.e.none (grown_below hW none)))
  have B0 := Lib.hid h.b
  have hc0 := h.c
  have hm0 := h.m
  have hC := Lib.hid (comb_nil l)
  obtain ⟨X, hX⟩ : ∃ X, X = splL l := ⟨_, rfl⟩
  rw [← hX] at hC ⊢
  have HX : Hid (X = comb (([] : List Pc).map Pc.l) (splL l)) := Lib.hid (by rw [hX]; exact comb_nil l)
  obtain ⟨i0, hi, hz0, hz1, hz2⟩ := info_parts pc_info
  clear h hF ht hC hX
  go_enter Tryd.func38, Tryd.ntmps38
  go_wp2_with fail
  go_loopw [0, 4] (fun bv ov wr => ∃ (ad : Option Addr) (r : List UInt8) (rc : Nat) (ps : List Pc), bv = .slice ad r.length rc ∧ r.length ≤ 200020 ∧ r.length ≤ rc ∧ rc ≤ 9223372036854775807 ∧ ps.length + r.length ≤ 200020 ∧ Hid (BAt w.heap.size w ad r) ∧ Hid (OwnP w.heap.size wr ov ps) ∧ Hid (Below w.heap.size w wr) ∧ Hid (X = comb (ps.map Pc.l) (splL r))) (fun bv _ _ => lenS bv)
  case atStart => exact ⟨a, l, cap, [], rfl, hlen, hc0, hm0, by simpa using hlen, B0, Lib.hid (OwnP.nil _ _), Lib.hid (Below.refl _ _), HX⟩
  case round =>
    obtain ⟨ad, r, rc, ps, rfl, hr2, hrc, hrm, hpr, BT, O, K, EX⟩ := hrel
    by_cases hr0 : r = []
    · subst hr0
      have HY : Hid (X = (0, ps.map Pc.l)) := Lib.hid (by rw [EX.out, comb_done])
      simp only [List.length_nil]
      go_wp2_with fail
      go_ret2
      exact ⟨_, ps, by rw [HY.out]; rfl, by rw [HY.out], O.out, K.out⟩
    · have hpos : (0 : Int) < (r.length : Int) := by
        have : r.length ≠ 0 := fun h => hr0 (List.length_eq_zero_iff.1 h)
        omega
      cases hn : msr r with
      | none =>
        have HY : Hid (X = (2, [])) := Lib.hid (by rw [EX.out, comb_none hr0 hn])
        have HC := Lib.hid (cut_no G ad r rc wr (HE.out _ K.out ad r rc BT.out hrc hrm) (HF.out _ K.out) (by omega) hn)
        clear hn hr0
        generalize r.length = m at *
        go_wp2_with fail
        refine HC.out.mono ?_
        rintro e w1 ⟨t, p, rfl, hg⟩
        have K1 := Lib.hid (K.out.trans ((below_grown (hg.trans (World.grownBy_alloc w1 (.cells #[.slice none 0 0, .int .i64 0, .slice none 0 0] 127) none))).mono K.out.size))
        clear hg
        go_wp2_with fail
        refine (HTL.out _ _ _ K1.out).mono ?_
        rintro e w2 ⟨rfl, hg⟩
        have K2 := Lib.hid (K1.out.trans ((below_grown hg).mono K1.out.size))
        clear hg
        go_wp2_with fail
        go_ret2
        rw [HY.out]
        exact SplPost.err rfl K2.out
      | some x =>
        obtain ⟨f, t⟩ := x
        obtain ⟨h1, h2, h3⟩ := msr_some hn
        obtain ⟨b, off, rfl, _, _⟩ := BT.out.at (i := 0) (by omega)
        have HC := Lib.hid (cut_some2 G b off r rc f t wr (HE.out _ K.out _ r rc BT.out hrc hrm) (HF.out _ K.out) (by omega) hn)
        have hA := BT.out.pre2 (k := t) (by omega)
        have hS := (BT.out.sub (q := t) (cap := rc) (by omega) hrc)
        rw [if_neg (show ¬ rc = t by omega)] at hS
        have hS4 := hS.pre2 (k := 4) (by rw [List.length_drop]; omega)
        have hlA : (r.take t).length = t := by rw [List.length_take]; omega
        have hlS : ((r.drop t).take 4).length = 4 := by rw [List.length_take, List.length_drop]; omega
        have hld : (r.drop (t + 4)).length = r.length - (t + 4) := List.length_drop
        by_cases hs : (r.drop t).take 4 = Crc.le4 (Crc.crc (r.take t))
        · have HO := Lib.hid (fun (W : World) (hW : Below w.heap.size w W) => open_yes b off rc f (rc - t) (some ⟨b, off + t, none⟩) (r.take t) ((r.drop t).take 4) W ((hA.keep (grown_below hW none) (by simp)).mono hW.size) ((hS4.keep (grown_below hW none) (by simp)).mono hW.size) (HT.out W hW) (by omega) hlS hs (by omega) (by omega) (by omega) hrm)
          rw [hlA] at HO
          have HY : Hid (X = comb (ps.map Pc.l ++ [(r.take t).drop f]) (splL (r.drop (t + 4)))) := Lib.hid (by rw [EX.out, comb_step hr0 hn hs])
          have hxl : ((r.take t).drop f).length ≤ 200020 := by rw [List.length_drop, List.length_take]; omega
          clear hn hs hA hS hS4 hlA hlS hr0
          obtain ⟨m, hm⟩ : ∃ m, m = (r.drop (t + 4)).length := ⟨_, rfl⟩
          rw [hld] at hm
          rw [← hm] at HC
          have Hm := Lib.hid hm
          have hm4 : m + 4 ≤ r.length := by omega
          clear hm
          obtain ⟨x, hx⟩ : ∃ x, x = (r.take t).drop f := ⟨_, rfl⟩
          rw [← hx] at HO HY hxl
          clear hx
          obtain ⟨ln, hln⟩ : ∃ ln, ln = r.length := ⟨_, rfl⟩
          rw [← hln] at hpos HC hm4 hr2 hrc hpr ⊢
          have Hln := Lib.hid hln
          have hld' := Lib.hid hld
          clear hln hld h3
          go_wp2_with fail
          refine HC.out.mono ?_
          rintro e w1 ⟨ra, rc2, rfl, hsub, hrc2, hrm2, hg⟩
          have HSub := Lib.hid (hsub w.heap.size w BT.out)
          have L1 := Lib.hid (below_grown (hg.trans (World.grownBy_alloc w1 (.cells #[.slice (some ⟨b, off, none⟩) t rc, .int .i64 f, .slice (some ⟨b, off + t, none⟩) 4 (rc - t)] 127) none)))
          have K1 := Lib.hid (K.out.trans (L1.out.mono K.out.size))
          have O1 := Lib.hid (O.out.stay L1.out)
          clear hg hsub
          go_wp2_with fail
          refine (HO.out _ K1.out).mono ?_
          rintro e w2 ⟨v, rfl, ho, hg⟩
          have K2 := Lib.hid (K1.out.trans (hg.mono K1.out.size))
          have O2 := Lib.hid (O1.out.stay hg)
          have hs2 : w.heap.size ≤ w2.heap.size := K2.out.size
          obtain ⟨pa, pc, rfl, hp⟩ := ho.pok (out := u4) (by omega) (fun k hk => (World.ownsRow.lt O1.out.1 k hk).2)
          have PK := Lib.hid hp
          clear ho hg hp
          go_wp2_with (at_builtin; refine wpList_append_own_at _ rfl _ _ 74 rfl w.heap.size 32 i0 (.slice none 0 0) 1 24 Tryd.underlying74 hi hz0 hz1 hz2 rfl (by decide) _ _ _ rfl (World.ownsRow.alloc O2.out.1 _) ⟨w2.heap.size, 0, none⟩ 1 1 [.slice pa x.length pc] rfl rfl ?c1 ?c2 ?c3 ?c4 ?c5 ?_)
          case c1 => exact cell_one_new _ _ _
          case c2 => intro u hu; simp at hu; subst hu; rfl
          case c3 => unfold maxLen; omega
          case c4 => omega
          case c5 => simp; omega
          intro v' w3 hown' hgrow _ hat
          have hat2 : v'.ownBlock = u4.ownBlock ∨ ∃ k, v'.ownBlock = some k ∧ w2.heap.size ≤ k := hat.imp id (fun h => ⟨_, h, by simp⟩)
          have hgr2 := (World.grownBy_alloc w2 (.cells #[.slice pa x.length pc] 32) _).trans hgrow
          have keepR : ∀ r, POk w2 u4 r → POk w3 v' r := fun r hr => hr.keep hgr2 (fun k hk => hk) hat2
          have O3 := Lib.hid (OwnP.more (x := ⟨pa, pc, x⟩) rfl hown' (fun r hr => keepR r (O2.out.2 r hr)) (keepR _ PK.out))
          have K3 := Lib.hid (K2.out.grown hgr2 hs2 (fun k hk => (World.ownsRow.lt O2.out.1 k hk).1))
          have Hm2 := Lib.hid hm4
          clear hown' hgrow hat hat2 hgr2 keepR
          go_wp2_with fail
          go_roundw
          case rel =>
            have e1 : m = (r.drop (t + 4)).length := by rw [hld'.out]; exact Hm.out
            refine ⟨some ra, r.drop (t + 4), rc2, ps ++ [⟨pa, pc, x⟩], by rw [← e1], by rw [← e1]; omega, by rw [← e1]; omega, hrm2, by rw [List.length_append, ← e1, List.length_singleton]; omega, HSub, O3, K3, Lib.hid (by rw [HY.out]; simp)⟩
          case measure => simp [lenS]; omega
        · have HO := Lib.hid (fun (W : World) (hW : Below w.heap.size w W) => open_no b off rc f (rc - t) (some ⟨b, off + t, none⟩) (r.take t) ((r.drop t).take 4) W ((hA.keep (grown_below hW none) (by simp)).mono hW.size) ((hS4.keep (grown_below hW none) (by simp)).mono hW.size) (HT.out W hW) (by omega) hlS hs (HF.out W hW).2.2.2 (by omega) (by omega) (by omega) hrm)
          rw [hlA] at HO
          have HY : Hid (X = (4, [])) := Lib.hid (by rw [EX.out, comb_sum hr0 hn hs])
          clear hn hs hA hS hS4 hlA hlS hr0
          generalize r.length = ln at *
          generalize ln - (t + 4) = m at *
          go_wp2_with fail
          refine HC.out.mono ?_
          rintro e w1 ⟨ra, rc2, rfl, _, _, _, hg⟩
          have L1 := Lib.hid (below_grown (hg.trans (World.grownBy_alloc w1 (.cells #[.slice (some ⟨b, off, none⟩) t rc, .int .i64 f, .slice (some ⟨b, off + t, none⟩) 4 (rc - t)] 127) none)))
          have K1 := Lib.hid (K.out.trans (L1.out.mono K.out.size))
          clear hg
          go_wp2_with fail
          refine (HO.out _ K1.out).mono ?_
          rintro e w2 ⟨p, rfl, hg⟩
          have K2 := Lib.hid (K1.out.trans (hg.mono K1.out.size))
          clear hg
          go_wp2_with fail
          refine (HTS.out _ _ K2.out).mono ?_
          rintro e w3 ⟨rfl, hg⟩
          have K3 := Lib.hid (K2.out.trans ((below_grown hg).mono K2.out.size))
          clear hg
          go_wp2_with fail
          go_ret2
          rw [HY.out]
          exact SplPost.err rfl K3.out
end Go.Proofs.YthdaibmminibhaaDoor
