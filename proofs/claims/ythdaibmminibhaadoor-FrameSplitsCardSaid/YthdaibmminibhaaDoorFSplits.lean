/- The law FrameSplits walked. -/
import Derived.Test.YthdaibmminibhaaDoorRefSpl
import Derived.Test.YthdaibmminibhaaDoorFReads
namespace Go.Proofs.YthdaibmminibhaaDoor
open Go.RowKit

theorem map_at {ps qs : List Pc} (h : ps.map Pc.l = qs.map Pc.l) (i : Nat) : (ps.getD i default).l = (qs.getD i default).l := by
  have := congrArg (fun l => l[i]?) h
  simp only [List.getElem?_map] at this
  simp only [List.getD]
  cases h1 : ps[i]? <;> cases h2 : qs[i]? <;> rw [h1, h2] at this <;> simp at this ⊢
  exact this
theorem OwnP.len {B : Nat} {w : World} {v : Value} {l : List Pc} (h : OwnP B w v l) : l.length ≤ 9223372036854775807 := by
  rcases h.1.2 with ⟨_, h0⟩ | ⟨g, cap, cur, hv, _, _, hc, hm, _⟩
  · omega
  · unfold maxLen at hm; omega
theorem BAt.drewN {B : Nat} {w : World} {a : Option Addr} {l : List UInt8} (h : BAt B w a l) (n : Nat) : BAt B (w.drewN n) a l := h.keep (grown_drewN (grown_refl w none) n) (by simp)
set_option maxRecDepth 100000 in
set_option maxHeartbeats 3200000 in
theorem FrameSplits_short (G : Nat) (a : Option Addr) (cap : Nat) (l : List UInt8) (w : World) (h : Env3 G w a l cap) (hF : SentF w) (ht : Turns w) (hl : l.length ≤ 5000) :
    Calls Tryd.prog 8 #[.slice a l.length cap] w fun e w' => e = .returned (.bool true) ∧ Below w.heap.size w w' := by
  have HW := Lib.hid awake5_any
  have HT := Lib.hid ht
  have HD := Lib.hid (fun W (hW : Below w.heap.size w W) => split_any G a l cap W (h.below hW) (hF.keep (grown_below hW none)) (ht.keep (grown_below hW none)) (by omega))
  have HR := Lib.hid (fun W (hW : Below w.heap.size w W) => refSplit_any a l cap W (h.below hW).b h.c h.m (by omega))
  clear h hF ht
  generalize splL l = x at *
  generalize l.length = len at *
  have h5' : (len : Int) ≤ 5000 := by omega
  go_enter Tryd.func8, Tryd.ntmps8
  go_wp2_with fail
  refine (HW.out _ HT.out).mono ?_
  rintro e w1 ⟨rfl, hb⟩
  have K1 := Lib.hid hb
  clear hb
  go_wp2_with fail
  refine (HD.out _ K1.out).mono ?_
  rintro e w2 ⟨v, ps, rfl, hps, ho, hb⟩
  have O2 := Lib.hid ho
  have K2 := Lib.hid (K1.out.trans (hb.mono K1.out.size))
  clear hb ho
  go_wp2_with fail
  refine (HR.out _ K2.out).mono ?_
  rintro e w3 ⟨v', qs, rfl, hqs, ho, hb⟩
  have K3 := Lib.hid (K2.out.trans (hb.mono K2.out.size))
  have O3 := O2.out.stay hb
  have hx2 : x.2.length ≤ 9223372036854775807 := by rw [← hqs, List.length_map]; exact ho.len
  have hpl : ps.length = x.2.length := by rw [← hps, List.length_map]
  have hql : qs.length = x.2.length := by rw [← hqs, List.length_map]
  obtain ⟨a3, c3, rfl, hp3, _, _, _⟩ := O3.low (by omega)
  obtain ⟨a4, c4, rfl, hp4, _, _, _⟩ := ho.low (by omega)
  have P3 := Lib.hid hp3
  have P4 := Lib.hid hp4
  have HM := Lib.hid (map_at (hps.trans hqs.symm))
  have Hpl := Lib.hid hpl
  have Hql := Lib.hid hql
  rw [hpl, hql]
  obtain ⟨n, hn⟩ : ∃ n, n = x.2.length := ⟨_, rfl⟩
  rw [← hn] at hx2 ⊢
  have Hn := Lib.hid hn
  clear hb ho O3 hp3 hp4 hps hqs hpl hql hn
  go_wp2_with fail
  go_loopw [38] (fun i wr => ∃ (j : Nat), i = .int .i64 j ∧ j ≤ n ∧ Hid (w3.grownBy wr none)) (fun i _ => n - (intOf i).toNat)
  case atStart => exact ⟨0, rfl, by omega, Lib.hid (grown_refl _ _)⟩
  case round =>
    obtain ⟨j, rfl, hj, K⟩ := hrel
    by_cases hlt : j < n
    · obtain ⟨b3, o3, rfl, _, c3'⟩ := (P3.out.keep K.out (by simp)).at (i := j) (by rw [Hpl.out, ← Hn.out]; exact hlt)
      obtain ⟨b4, o4, rfl, _, c4'⟩ := (P4.out.keep K.out (by simp)).at (i := j) (by rw [Hql.out, ← Hn.out]; exact hlt)
      have hpb := (P3.out.keep K.out (by simp)).2.1 _ (pc_mem (i := j) (by rw [Hpl.out, ← Hn.out]; exact hlt))
      have hqb := (P4.out.keep K.out (by simp)).2.1 _ (pc_mem (i := j) (by rw [Hql.out, ← Hn.out]; exact hlt))
      have hpq := HM.out j
      generalize ps.getD j default = p at *
      generalize qs.getD j default = q at *
      obtain ⟨pa, pc, pl⟩ := p
      obtain ⟨qa, qc, ql⟩ := q
      simp only at hpq
      subst hpq
      simp only [Pc.v] at c3' c4' hpb hqb
      have HC3 := Lib.hid (fun m => at_string (hpb.drewN m) pc)
      have HC4 := Lib.hid (fun m => at_string (hqb.drewN m) qc)
      clear hpb hqb
      generalize pl.length = pn at *
      go_wp2_with fail
      refine wp_region_quiet_lit (by kernel_rfl) (by kernel_rfl) ?_
      repeat (go_big_quiet_step (fail))
      refine quiet_convert (by rfl) _ _ _ (by rfl) (.string ⟨pl.toArray⟩) (fun w hw => ?_) ?_
      · obtain ⟨m, rfl⟩ := hw
        exact HC3.out m
      go_simp
      repeat (go_big_quiet_step (fail))
      refine quiet_convert (by rfl) _ _ _ (by rfl) (.string ⟨pl.toArray⟩) (fun w hw => ?_) ?_
      · obtain ⟨m, rfl⟩ := hw
        exact HC4.out m
      go_simp
      repeat (go_big_quiet_step (fail))
      refine wpQuiet_nil ?_
      intro nq
      rename_i KK hK
      refine hK _ _ ?_
      go_wp2_with fail
      go_roundw
      case rel => exact ⟨j + 1, by go_num, by omega, Lib.hid (grown_drewN K.out _)⟩
      case measure => simp [intOf]; omega
    · obtain rfl : j = n := by omega
      go_wp2_with fail
      go_ret
      exact ⟨rfl, K3.out.trans ((below_grown K.out).mono K3.out.size)⟩
set_option maxHeartbeats 1600000 in
theorem FrameSplits_long (a : Option Addr) (cap len : Nat) (w : World) (ht : Turns w) (hl : 5000 < len) :
    Calls Tryd.prog 8 #[.slice a len cap] w fun e w' => e = .returned (.bool true) ∧ Below w.heap.size w w' := by
  have HW := Lib.hid awake5_any
  have HT := Lib.hid ht
  have hl' : (5000 : Int) < len := by omega
  clear ht hl
  go_enter Tryd.func8, Tryd.ntmps8
  go_wp2_with fail
  refine (HW.out _ HT.out).mono ?_
  rintro e w1 ⟨rfl, hb⟩
  have K1 := Lib.hid hb
  clear hb
  go_wp2_with fail
  refine (HW.out _ (HT.out.keep (grown_below K1.out none))).mono ?_
  rintro e w2 ⟨rfl, hb⟩
  have K2 := Lib.hid (K1.out.trans (hb.mono K1.out.size))
  clear hb
  go_wp2_with fail
  go_ret
  exact ⟨rfl, K2.out⟩
theorem FrameSplits_any (G : Nat) (a : Option Addr) (cap : Nat) (l : List UInt8) (w : World) (h : Env3 G w a l cap) (hF : SentF w) (ht : Turns w) :
    Calls Tryd.prog 8 #[.slice a l.length cap] w fun e w' => e = .returned (.bool true) ∧ Below w.heap.size w w' := by
  by_cases h1 : l.length ≤ 5000
  · exact FrameSplits_short G a cap l w h hF ht h1
  · exact FrameSplits_long a cap _ w ht (by omega)
end Go.Proofs.YthdaibmminibhaaDoor
