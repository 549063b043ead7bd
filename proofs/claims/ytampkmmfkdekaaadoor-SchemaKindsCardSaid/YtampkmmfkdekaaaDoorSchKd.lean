/- The law SchemaKinds walked. -/
import Derived.Test.YtampkmmfkdekaaaDoorSchKc
import Derived.Deep.RegionLaw
namespace Go.Proofs.YtampkmmfkdekaaaDoor
open Go.RowKit

theorem step_append_own6g (w : World) {P : Program} {ops : Array Oper} {o : Oper} {a : Act} {K : Act → World → Prop} {Q : Exit → Act → World → Prop} {E : Prop} (hw : Region.wanted o (yielded ops a.tmps) = true) (s x : Operand) (t : TypeId)
    (ho : o.op = .call { callee := .builtin .append, args := #[s, x], argTypes := #[t, t] })
    (base : Nat) (e : TypeId) (i : TypeInfo) (z : Value) (size bytes : Nat) (ht : P.underlying t = some (.slice e)) (hi : P.info? e = some i) (hz : i.zero = some z)
    (hsize : i.size = size) (hby : i.bytes = bytes) (hzs : z.cells.size = size) (hsz : 0 < size)
    (v : Value) (n : Nat) (xs : List Value) (hs : a.eval s = v) (hown : w.ownsRow base e size v n xs)
    (ad : Addr) (m c : Nat) (news : List Value) (hx : a.eval x = .slice (some ad) m c) (hl : news.length = m * size) (hnews : ∀ j u, news[j]? = some u → w.cell? (ad.add j) = some u) (h1 : ∀ u ∈ news, u.oneCell' = true)
    (h63 : n + m ≤ maxLen) (hbytes : (n + m) * bytes ≤ 140737488355328) (hbase : base ≤ w.heap.size)
    (h : ∀ v' w', w'.ownsRow base e size v' (n + m) (xs ++ news) → w.grownBy w' v.ownBlock → K (a.put o.dst v') w') :
    if Region.wanted o (yielded ops a.tmps) = true then Oper.wp P o a w K Q else E := by
  rw [if_pos hw]
  exact wp_append_own w s x t ho base e i z size bytes ht hi hz hsize hby hzs hsz v n xs hs hown ad m c news hx hl hnews h1 h63 hbytes hbase fun v' w' h2 h3 _ => h v' w' h2 h3
theorem own_more6 {B q : Nat} {w : World} {v : Value} {L : List Vv} {x : Vv} (h : w.ownsRow B 29 3 v (q + 1) (L.flatMap vC6 ++ vC6 x)) (hl : L.length = q) (hq : q ≤ 900) : ∃ a c, v = .slice a (q + 1) c ∧ VvAt w.heap.size w a (L ++ [x]) := by
  have hlen : (L ++ [x]).length = q + 1 := by rw [List.length_append, hl]; rfl
  have e : L.flatMap vC6 ++ vC6 x = (L ++ [x]).flatMap vC6 := by simp [List.flatMap_append]
  rw [e, ← hlen] at h
  obtain ⟨a, c, hv, _, hvv⟩ := own_vv6 h (by rw [hlen]; omega)
  exact ⟨a, c, by rw [hv, hlen], hvv⟩
theorem VvAt.take {B : Nat} {w : World} {a : Option Addr} {l : List Vv} (h : VvAt B w a l) (p : Nat) : VvAt B w a (l.take p) := by
  refine ⟨Nat.le_trans (by rw [List.length_take]; omega) h.1, ?_⟩
  rcases h.2 with h0 | ⟨b, off, e, hlt, hc⟩
  · exact .inl (by rw [h0]; simp)
  · refine .inr ⟨b, off, e, hlt, fun i hi => ?_⟩
    rw [List.length_take] at hi
    have hg : (l.take p).getD i default = l.getD i default := by simp [List.getD, show i < p by omega]
    rw [hg]
    exact hc i (by omega)
set_option maxRecDepth 100000 in
set_option maxHeartbeats 12800000 in
theorem SchemaKinds_any (ca ra : Option Addr) (ccap rcap : Nat) (l : List Cl) (r : List Vv) (N : ByteArray) (K : Int) (at' vk vn : Int) (vs : ByteArray) (w : World) (h : ColsAt w.heap.size w ca l) (hcap : l.length ≤ ccap) (hN : N.size ≤ 9223372036854775807) (hn : ∀ i, i < l.length → (l.getD i default).n.size ≤ 9223372036854775807)
    (hr : VvAt w.heap.size w ra r) (hrcap : r.length ≤ rcap) :
    Calls Tryd.prog 3 #[.agg #[.string N, .slice ca l.length ccap, .int .i64 K], .slice ra r.length rcap, .agg #[.int .i64 at', .int .i64 vk, .int .i64 vn, .string vs]] w fun e w' => e = .returned (.bool true) ∧ Below w.heap.size w w' := by
  have HW := Lib.hid (fun W => awake6_any W)
  have HRt := Lib.hid (fun (W : World) (hW : w.grownBy W none) => right_any ca ccap l N K W ((h.keep hW (by simp)).mono hW.size) hcap hN hn)
  have HRo := Lib.hid (fun (W : World) (hW : w.grownBy W none) => row_any6 N K ca ra ccap rcap l r W ((h.keep hW (by simp)).mono hW.size) ((hr.keep hW (by simp)).mono hW.size))
  have HG := Lib.hid (fun W => refGood_any vk vn vs W)
  have H := Lib.hid h
  have HR := Lib.hid hr
  generalize hm : l.length = m at *
  generalize hq : r.length = q at *
  have Hm := Lib.hid hm
  have Hq := Lib.hid hq
  clear h hr hm hq hn hN
  go_enter Tryd.func3, Tryd.ntmps3
  go_upto_region 1 with fail
  have S0 := Lib.hid (StK.start w N ca m ccap K at' vk vn vs)
  go_cut [7, 8] (fun s7 s8 wx => s7 = .int .i64 at' ∧ s8 = .pointer (some ⟨w.heap.size + 1 + 1, 0, none⟩) ∧ Hid (StK w wx N ca m ccap K vk vn vs))
  case first =>
    go_region_with fail
    all_goals
      go_wp2_with fail
      go_meet
      exact ⟨rfl, rfl, S0⟩
  case rest =>
  obtain ⟨rfl, rfl, S⟩ := hcut
  clear S0
  obtain ⟨_, ⟨a0, a1, a2⟩, ⟨b0, b1, b2⟩, _⟩ := S.out
  go_wp2_with fail
  refine (HW.out _).mono ?_
  rintro e w1 ⟨rfl, hg⟩
  replace S := Lib.hid (S.out.keep hg)
  clear hg a0 a1 a2 b0 b1 b2
  obtain ⟨gw, ⟨a0, a1, a2⟩, ⟨b0, b1, b2⟩, _⟩ := S.out
  go_wp2_with fail
  refine (HRt.out _ gw).mono ?_
  rintro e w2 ⟨⟨⟨b, rfl⟩, h100⟩, hg⟩
  replace S := Lib.hid (S.out.keep hg)
  clear hg a0 a1 a2 b0 b1 b2 gw
  cases b
  · go_wp2_with fail
    refine (HW.out _).mono ?_
    rintro e w3 ⟨rfl, hg⟩
    replace S := Lib.hid (S.out.keep hg)
    go_wp2_with fail
    go_ret
    exact ⟨rfl, below6 S.out.1⟩
  have hm100 : m ≤ 100 := Classical.byContradiction fun hh => by cases h100 (by omega)
  clear h100
  obtain ⟨gw, ⟨a0, a1, a2⟩, ⟨b0, b1, b2⟩, _⟩ := S.out
  go_wp2_with fail
  refine (HRo.out _ gw).mono ?_
  rintro e w3 ⟨⟨hf1, hf2⟩, hg⟩
  replace S := Lib.hid (S.out.keep hg)
  clear hg a0 a1 a2 b0 b1 b2 gw
  by_cases hf : ¬ Fits l r
  · obtain rfl := hf2 hf
    clear hf1 hf2
    go_wp2_with fail
    refine (HW.out _).mono ?_
    rintro e w4 ⟨rfl, hg⟩
    replace S := Lib.hid (S.out.keep hg)
    go_wp2_with fail
    go_ret
    exact ⟨rfl, below6 S.out.1⟩
  replace hf := Classical.not_not.1 hf
  obtain rfl := hf1 hf
  clear hf1 hf2
  have HF := Lib.hid hf
  have hqm : q = m := by rw [← Hm.out, ← Hq.out]; exact hf.1
  clear hf
  subst hqm
  obtain ⟨gw, ⟨a0, a1, a2⟩, ⟨b0, b1, b2⟩, _⟩ := S.out
  go_wp2_with fail
  refine (HG.out _).mono ?_
  rintro e w4 ⟨rfl, hg⟩
  replace S := Lib.hid (S.out.keep (grown_below6 hg none))
  clear hg a0 a1 a2 b0 b1 b2 gw
  have HGd : Hid (∀ b, goodB vk vn vs = b → goodB vk vn vs = b) := Lib.hid fun b h => h
  cases hgb : goodB vk vn vs
  · clear hgb
    go_wp2_with fail
    refine (HW.out _).mono ?_
    rintro e w5 ⟨rfl, hg⟩
    replace S := Lib.hid (S.out.keep hg)
    go_wp2_with fail
    go_ret
    exact ⟨rfl, below6 S.out.1⟩
  have HGB := Lib.hid hgb
  clear hgb HGd HG
  by_cases hq0 : q = 0
  · have hq0' : ((q : Int) == 0) = true := by simp [hq0]
    clear hq0
    go_wp2_with fail
    refine (HW.out _).mono ?_
    rintro e w5 ⟨rfl, hg⟩
    replace S := Lib.hid (S.out.keep hg)
    go_wp2_with fail
    go_ret
    exact ⟨rfl, below6 S.out.1⟩
  obtain ⟨k, hk, e⟩ := turn_at6 at' (k := q) (by omega) (by omega)
  have hq0' : ((q : Int) == 0) = false := by simp [hq0]
  go_upto_region 5 with fail
  rw [e]
  clear e hq0' hq0
  obtain ⟨_, ⟨a0, a1, a2⟩, ⟨b0, b1, b2⟩, _⟩ := S.out
  obtain ⟨cb, coff, rfl, hcb, c0, c1, c2⟩ := ((H.out.keep S.out.1 (by simp)).mono S.out.1.size).at (i := k) (by rw [Hm.out]; exact hk)
  obtain ⟨x, hx⟩ : ∃ x, x = l.getD k default := ⟨_, rfl⟩
  rw [← hx] at c0 c1 c2
  have Hx := Lib.hid hx
  clear hx
  obtain ⟨xn, xk, xb⟩ := x
  simp only at c0 c1 c2
  have q0 : (0 : Int) ≤ (k : Int) := Int.natCast_nonneg _
  have q1 : (k : Int) < (q : Int) := by omega
  have q2 : (k : Int) ≤ ccap := by omega
  go_upto_region 6 with fail
  have GW := Lib.hid (S.out.1.trans (World.grownBy_alloc w4 (.cells #[.string xn, .int .i64 xk, .bool xb] 39) none))
  replace S := Lib.hid (S.out.keep (World.grownBy_alloc w4 (.cells #[.string xn, .int .i64 xk, .bool xb] 39) none))
  have HX := Lib.hid (KBox.new w4 (.string xn) (.int .i64 xk) (.bool xb) 39)
  obtain ⟨g4, hg4⟩ : ∃ g, g = w4.heap.size := ⟨_, rfl⟩
  rw [← hg4] at HX ⊢
  have hg4' : g4 < (w4.alloc (.cells #[.string xn, .int .i64 xk, .bool xb] 39)).heap.size := by simp [hg4]
  clear hg4 a0 a1 a2 b0 b1 b2 c0 c1 c2
  generalize w4.alloc (.cells #[.string xn, .int .i64 xk, .bool xb] 39) = W at *
  obtain ⟨rb, roff, rfl, hrb, hrc⟩ : ∃ b off, ra = some ⟨b, off, none⟩ ∧ b < w.heap.size ∧ ∀ i, i < r.length → w.cell? ⟨b, off + i * 3, none⟩ = some (.int .i64 (r.getD i default).k) ∧ w.cell? ⟨b, off + i * 3 + 1, none⟩ = some (.int .i64 (r.getD i default).n) ∧ w.cell? ⟨b, off + i * 3 + 2, none⟩ = some (.string (r.getD i default).s) := by
    rcases HR.out.2 with h0 | h0
    · rw [h0] at Hq; have := Hq.out; simp at this; omega
    · exact h0
  have HC : Hid (∀ W', W.grownBy W' none → ∀ n i, i + n ≤ q → ∀ j u, (((r.drop i).take n).flatMap vC6)[j]? = some u → W'.cell? ((⟨rb, roff + i * 3, none⟩ : Addr).add j) = some u) := Lib.hid fun W' hW' n i hi => vv_cells (fun i hi => by
    obtain ⟨x0, x1, x2⟩ := hrc i hi
    have g := GW.out.trans hW'
    exact ⟨g.cell x0 (by simp), g.cell x1 (by simp), g.cell x2 (by simp)⟩) n i (by rw [Hq.out]; exact hi)
  clear hrc
  obtain ⟨l1, hl1⟩ : ∃ l1, l1 = (r.drop 0).take k := ⟨_, rfl⟩
  obtain ⟨l2, hl2⟩ : ∃ l2, l2 = (r.drop (k + 1)).take (q - (k + 1)) := ⟨_, rfl⟩
  have n1 : l1.length = k := by rw [hl1, List.length_take, List.length_drop, Hq.out]; omega
  have n2 : l2.length = q - (k + 1) := by rw [hl2, List.length_take, List.length_drop, Hq.out]; omega
  have HC1 := Lib.hid (fun W' hW' => hl1 ▸ HC.out W' hW' k 0 (by omega))
  have HC2 := Lib.hid (fun W' hW' => hl2 ▸ HC.out W' hW' (q - (k + 1)) (k + 1) (by omega))
  have L1 := Lib.hid hl1
  have L2 := Lib.hid hl2
  clear hl1 hl2 HC
  obtain ⟨i0, hi, hz0, hz1, hz2⟩ := info_parts6 val_info6
  have r0 : (k : Int) ≤ rcap := by omega
  have r1 : (q : Int) ≤ rcap := by omega
  have r2 : (k : Int) + 1 ≤ q := by omega
  have r3 : (k : Int) + 1 ≤ rcap := by omega
  have r4 : k < rcap := by omega
  have hwr := (wr_small6 hm100 hk).1
  have r5 : (k : Int) < rcap := by omega
  have r6 : (0 : Int) ≤ (k : Int) + 1 := by omega
  have r7 : k + 1 ≤ q := by omega
  have r8 : k + 1 ≤ rcap := by omega
  go_cut [11] (fun s11 wx => Hid (W.grownBy wx none) ∧ Hid (wx.ownsRow W.heap.size 29 3 s11 q ((l1 ++ [(⟨vk, vn, vs⟩ : Vv)] ++ l2).flatMap vC6)))
  case first =>
    have SA := Lib.hid (show ∀ o, W.grownBy (W.alloc o).drew none from fun o => grown_drew6 (World.grownBy_alloc W o none))
    have SA2 := Lib.hid (show ∀ o o', W.grownBy ((W.alloc o).alloc o').drew none from fun o o' => grown_drew6 ((World.grownBy_alloc W o none).trans (World.grownBy_alloc _ o' none)))
    have SB := Lib.hid (fun (W' : World) (hW : W.grownBy W' none) => S.out.2.2.1.keep hW)
    have SC1 : Hid (KBox W.heap.size (((W.alloc (.cells #[.int .i64 vk, .int .i64 vn, .string vs] 29)).alloc (.cells #[] 29)).drew) (.int .i64 vk) (.int .i64 vn) (.string vs)) := Lib.hid ((KBox.new W _ _ _ _).keep (grown_drew6 (World.grownBy_alloc _ _ none)))
    have SC2 : Hid (KBox (W.heap.size + 1) (((W.alloc (.cells #[] 29)).alloc (.cells #[.int .i64 vk, .int .i64 vn, .string vs] 29)).drew) (.int .i64 vk) (.int .i64 vn) (.string vs)) := Lib.hid (by
      have := KBox.new (W.alloc (.cells #[] 29)) (.int .i64 vk) (.int .i64 vn) (.string vs) 29
      rw [show (W.alloc (.cells #[] 29)).heap.size = W.heap.size + 1 by simp] at this
      exact this.keep (grown_drew6 (grown_refl6 _ none)))
    obtain ⟨b0, b1, b2⟩ := S.out.2.2.1
    have bb0 : ∀ o, (W.alloc o).drew.cell? ⟨w.heap.size + 1 + 1, 0, none⟩ = some (.int .i64 vk) := fun o => (SB.out _ (SA.out o)).1
    have bb1 : ∀ o, (W.alloc o).drew.cell? ⟨w.heap.size + 1 + 1, 1, none⟩ = some (.int .i64 vn) := fun o => (SB.out _ (SA.out o)).2.1
    have bb2 : ∀ o, (W.alloc o).drew.cell? ⟨w.heap.size + 1 + 1, 2, none⟩ = some (.string vs) := fun o => (SB.out _ (SA.out o)).2.2
    by_cases hcp : rcap = k + 1
    · have hl0 := Lib.hid (show l2 = [] from List.length_eq_zero_iff.1 (by rw [n2]; omega))
      have hT : (rcap = k + 1) = True := by simp [hcp]
      clear hcp
      go_region_held3 (fun w' => w'.cell? ⟨w.heap.size + 1 + 1, 0, none⟩ = some (.int .i64 vk) ∧ w'.cell? ⟨w.heap.size + 1 + 1, 1, none⟩ = some (.int .i64 vn) ∧ w'.cell? ⟨w.heap.size + 1 + 1, 2, none⟩ = some (.string vs)) (first | go_keep | exact SB.out _ G5.out | exact SB.out _ G4.out | exact SB.out _ G3.out) (first
        | ((with_reducible show @ite _ _ _ (Oper.wp _ _ _ ((W.alloc (.cells #[] 29)).drew) _ _) _); refine step_append_own6 ((W.alloc (.cells #[] 29)).drew) (by rfl) (.tmp 53) (.tmp 56) _ (by rfl) W.heap.size 29 i0 (.agg #[.int .i64 0, .int .i64 0, .string ⟨#[]⟩]) 3 32 Tryd.underlying26 hi hz0 hz1 hz2 rfl (by decide) _ 0 [] (by rfl) (own_made6 _ _ _ rfl (Nat.le_refl _)) ⟨rb, roff + 0 * 3, none⟩ k rcap (l1.flatMap vC6) (by simp [Act.eval]) (by rw [vC6_len, n1]) (HC1.out _ (SA.out _)) (vC6_one _) (by unfold maxLen; omega) (by omega) (by first | exact Nat.le_refl _ | (simp; done) | (simp; omega)) ?_; intro v1 w3 hown1 hgrow1; have G3 := Lib.hid (grown_then6 (SA.out _) hgrow1 (by intro j hj; simp [Value.ownBlock] at hj; omega)); have F3 := Lib.hid (fun k hk => (hown1.lt k hk).1); have bb3 := SB.out _ G3.out; obtain ⟨p0, p1, p2⟩ := bb3; skip)
        | ((with_reducible show @ite _ _ _ (Oper.wp _ _ _ (((W.alloc (.cells #[.int .i64 vk, .int .i64 vn, .string vs] 29)).alloc (.cells #[] 29)).drew) _ _) _); refine step_append_own6 (((W.alloc (.cells #[.int .i64 vk, .int .i64 vn, .string vs] 29)).alloc (.cells #[] 29)).drew) (by rfl) (.tmp 53) (.tmp 56) _ (by rfl) W.heap.size 29 i0 (.agg #[.int .i64 0, .int .i64 0, .string ⟨#[]⟩]) 3 32 Tryd.underlying26 hi hz0 hz1 hz2 rfl (by decide) _ 0 [] (by rfl) (own_drew6 (own_made6 W.heap.size (W.heap.size + 1) (W.alloc (.cells #[.int .i64 vk, .int .i64 vn, .string vs] 29)) (by simp) (by simp))) ⟨rb, roff + 0 * 3, none⟩ k rcap (l1.flatMap vC6) (by simp [Act.eval]) (by rw [vC6_len, n1]) (HC1.out _ (SA2.out _ _)) (vC6_one _) (by unfold maxLen; omega) (by omega) (by first | exact Nat.le_refl _ | (simp; done) | (simp; omega)) ?_; intro v1 w3 hown1 hgrow1; have G3 := Lib.hid (grown_then6 (SA2.out _ _) hgrow1 (by intro j hj; simp [Value.ownBlock] at hj; omega)); have F3 := Lib.hid (fun k hk => (hown1.lt k hk).1); have bb3 := SB.out _ G3.out; obtain ⟨p0, p1, p2⟩ := bb3; have cb3 : KBox W.heap.size w3 (.int .i64 vk) (.int .i64 vn) (.string vs) := box_far SC1.out hgrow1 (by simp [Value.ownBlock]); have CB3 := Lib.hid cb3)
        | ((with_reducible show @ite _ _ _ (Oper.wp _ _ _ (((W.alloc (.cells #[] 29)).alloc (.cells #[.int .i64 vk, .int .i64 vn, .string vs] 29)).drew) _ _) _); refine step_append_own6 (((W.alloc (.cells #[] 29)).alloc (.cells #[.int .i64 vk, .int .i64 vn, .string vs] 29)).drew) (by rfl) (.tmp 53) (.tmp 56) _ (by rfl) W.heap.size 29 i0 (.agg #[.int .i64 0, .int .i64 0, .string ⟨#[]⟩]) 3 32 Tryd.underlying26 hi hz0 hz1 hz2 rfl (by decide) _ 0 [] (by rfl) (own_drew6 ((own_made6 W.heap.size W.heap.size W rfl (Nat.le_refl _)).alloc _)) ⟨rb, roff + 0 * 3, none⟩ k rcap (l1.flatMap vC6) (by simp [Act.eval]) (by rw [vC6_len, n1]) (HC1.out _ (SA2.out _ _)) (vC6_one _) (by unfold maxLen; omega) (by omega) (by first | exact Nat.le_refl _ | (simp; done) | (simp; omega)) ?_; intro v1 w3 hown1 hgrow1; have G3 := Lib.hid (grown_then6 (SA2.out _ _) hgrow1 (by intro j hj; simp [Value.ownBlock] at hj; omega)); have F3 := Lib.hid (fun k hk => (hown1.lt k hk).1); have bb3 := SB.out _ G3.out; obtain ⟨p0, p1, p2⟩ := bb3; have cb3 : KBox (W.heap.size + 1) w3 (.int .i64 vk) (.int .i64 vn) (.string vs) := box_far SC2.out hgrow1 (by simp [Value.ownBlock]); have CB3 := Lib.hid cb3)
        | ((with_reducible show @ite _ _ _ (Oper.wp _ _ _ (w3.alloc (.cells #[.int .i64 vk, .int .i64 vn, .string vs] 29)) _ _) _); refine step_append_own6 (w3.alloc (.cells #[.int .i64 vk, .int .i64 vn, .string vs] 29)) (by rfl) (.tmp 57) (.tmp 59) _ (by rfl) W.heap.size 29 i0 (.agg #[.int .i64 0, .int .i64 0, .string ⟨#[]⟩]) 3 32 Tryd.underlying26 hi hz0 hz1 hz2 rfl (by decide) v1 _ _ (by rfl) (hown1.alloc _) ⟨w3.heap.size, 0, none⟩ 1 1 (vC6 ⟨vk, vn, vs⟩) (by rfl) rfl ((vC6_at _ _ _ (KBox.new w3 _ _ _ _))) (vC6_one1 _) (by unfold maxLen; omega) (by omega) (by first | exact G3.out.size | (have := G3.out.size; simp; omega)) ?_; intro v2 w4 hown2 hgrow2; have G4 := Lib.hid (grown_then6 (G3.out.trans (World.grownBy_alloc w3 (.cells #[.int .i64 vk, .int .i64 vn, .string vs] 29) none)) hgrow2 (fun j hj => F3.out j hj)); have F4 := Lib.hid (fun k hk => (hown2.lt k hk).1))
        | ((with_reducible show @ite _ _ _ (Oper.wp _ _ _ (w3) _ _) _); refine step_append_own6 (w3) (by rfl) (.tmp 57) (.tmp 59) _ (by rfl) W.heap.size 29 i0 (.agg #[.int .i64 0, .int .i64 0, .string ⟨#[]⟩]) 3 32 Tryd.underlying26 hi hz0 hz1 hz2 rfl (by decide) v1 _ _ (by rfl) (hown1) ⟨W.heap.size, 0, none⟩ 1 1 (vC6 ⟨vk, vn, vs⟩) (by rfl) rfl (vC6_at _ _ _ CB3.out) (vC6_one1 _) (by unfold maxLen; omega) (by omega) (by first | exact G3.out.size | (have := G3.out.size; simp; omega)) ?_; intro v2 w4 hown2 hgrow2; have G4 := Lib.hid (grown_then6 (G3.out) hgrow2 (fun j hj => F3.out j hj)); have F4 := Lib.hid (fun k hk => (hown2.lt k hk).1))
        | ((with_reducible show @ite _ _ _ (Oper.wp _ _ _ (w3) _ _) _); refine step_append_own6 (w3) (by rfl) (.tmp 57) (.tmp 59) _ (by rfl) W.heap.size 29 i0 (.agg #[.int .i64 0, .int .i64 0, .string ⟨#[]⟩]) 3 32 Tryd.underlying26 hi hz0 hz1 hz2 rfl (by decide) v1 _ _ (by rfl) (hown1) ⟨W.heap.size + 1, 0, none⟩ 1 1 (vC6 ⟨vk, vn, vs⟩) (by rfl) rfl (vC6_at _ _ _ CB3.out) (vC6_one1 _) (by unfold maxLen; omega) (by omega) (by first | exact G3.out.size | (have := G3.out.size; simp; omega)) ?_; intro v2 w4 hown2 hgrow2; have G4 := Lib.hid (grown_then6 (G3.out) hgrow2 (fun j hj => F3.out j hj)); have F4 := Lib.hid (fun k hk => (hown2.lt k hk).1))
        | ((with_reducible show @ite _ _ _ (Oper.wp _ _ _ (w4) _ _) _); refine step_append_own6 (w4) (by rfl) (.tmp 60) (.tmp 64) _ (by rfl) W.heap.size 29 i0 (.agg #[.int .i64 0, .int .i64 0, .string ⟨#[]⟩]) 3 32 Tryd.underlying26 hi hz0 hz1 hz2 rfl (by decide) v2 _ _ (by rfl) hown2 _ (q - (k + 1)) _ (l2.flatMap vC6) (by rfl) (by rw [vC6_len, n2]) (by intro j u hj; rw [hl0.out] at hj; simp at hj) (vC6_one _) (by unfold maxLen; omega) (by omega) G4.out.size ?_; intro v3 w5 hown3 hgrow3; have G5 := Lib.hid (grown_then6 G4.out hgrow3 (fun j hj => F4.out j hj))))
      all_goals
        have e1 : 0 + k + 1 + (q - (k + 1)) = q := by omega
        have e2 : [] ++ l1.flatMap vC6 ++ vC6 ⟨vk, vn, vs⟩ ++ l2.flatMap vC6 = (l1 ++ [(⟨vk, vn, vs⟩ : Vv)] ++ l2).flatMap vC6 := by simp [List.flatMap_append]
        rw [e1, e2] at hown3
        go_wp2_with fail
        go_meet
        exact ⟨G5, Lib.hid hown3⟩
    · have hcp1 : ¬ rcap = k + 1 := hcp
      go_region_held3 (fun w' => w'.cell? ⟨w.heap.size + 1 + 1, 0, none⟩ = some (.int .i64 vk) ∧ w'.cell? ⟨w.heap.size + 1 + 1, 1, none⟩ = some (.int .i64 vn) ∧ w'.cell? ⟨w.heap.size + 1 + 1, 2, none⟩ = some (.string vs)) (first | go_keep | exact SB.out _ G5.out | exact SB.out _ G4.out | exact SB.out _ G3.out) (first
        | ((with_reducible show @ite _ _ _ (Oper.wp _ _ _ ((W.alloc (.cells #[] 29)).drew) _ _) _); refine step_append_own6 ((W.alloc (.cells #[] 29)).drew) (by rfl) (.tmp 53) (.tmp 56) _ (by rfl) W.heap.size 29 i0 (.agg #[.int .i64 0, .int .i64 0, .string ⟨#[]⟩]) 3 32 Tryd.underlying26 hi hz0 hz1 hz2 rfl (by decide) _ 0 [] (by rfl) (own_made6 _ _ _ rfl (Nat.le_refl _)) ⟨rb, roff + 0 * 3, none⟩ k rcap (l1.flatMap vC6) (by simp [Act.eval]) (by rw [vC6_len, n1]) (HC1.out _ (SA.out _)) (vC6_one _) (by unfold maxLen; omega) (by omega) (by first | exact Nat.le_refl _ | (simp; done) | (simp; omega)) ?_; intro v1 w3 hown1 hgrow1; have G3 := Lib.hid (grown_then6 (SA.out _) hgrow1 (by intro j hj; simp [Value.ownBlock] at hj; omega)); have F3 := Lib.hid (fun k hk => (hown1.lt k hk).1); have bb3 := SB.out _ G3.out; obtain ⟨p0, p1, p2⟩ := bb3; skip)
        | ((with_reducible show @ite _ _ _ (Oper.wp _ _ _ (((W.alloc (.cells #[.int .i64 vk, .int .i64 vn, .string vs] 29)).alloc (.cells #[] 29)).drew) _ _) _); refine step_append_own6 (((W.alloc (.cells #[.int .i64 vk, .int .i64 vn, .string vs] 29)).alloc (.cells #[] 29)).drew) (by rfl) (.tmp 53) (.tmp 56) _ (by rfl) W.heap.size 29 i0 (.agg #[.int .i64 0, .int .i64 0, .string ⟨#[]⟩]) 3 32 Tryd.underlying26 hi hz0 hz1 hz2 rfl (by decide) _ 0 [] (by rfl) (own_drew6 (own_made6 W.heap.size (W.heap.size + 1) (W.alloc (.cells #[.int .i64 vk, .int .i64 vn, .string vs] 29)) (by simp) (by simp))) ⟨rb, roff + 0 * 3, none⟩ k rcap (l1.flatMap vC6) (by simp [Act.eval]) (by rw [vC6_len, n1]) (HC1.out _ (SA2.out _ _)) (vC6_one _) (by unfold maxLen; omega) (by omega) (by first | exact Nat.le_refl _ | (simp; done) | (simp; omega)) ?_; intro v1 w3 hown1 hgrow1; have G3 := Lib.hid (grown_then6 (SA2.out _ _) hgrow1 (by intro j hj; simp [Value.ownBlock] at hj; omega)); have F3 := Lib.hid (fun k hk => (hown1.lt k hk).1); have bb3 := SB.out _ G3.out; obtain ⟨p0, p1, p2⟩ := bb3; have cb3 : KBox W.heap.size w3 (.int .i64 vk) (.int .i64 vn) (.string vs) := box_far SC1.out hgrow1 (by simp [Value.ownBlock]); have CB3 := Lib.hid cb3)
        | ((with_reducible show @ite _ _ _ (Oper.wp _ _ _ (((W.alloc (.cells #[] 29)).alloc (.cells #[.int .i64 vk, .int .i64 vn, .string vs] 29)).drew) _ _) _); refine step_append_own6 (((W.alloc (.cells #[] 29)).alloc (.cells #[.int .i64 vk, .int .i64 vn, .string vs] 29)).drew) (by rfl) (.tmp 53) (.tmp 56) _ (by rfl) W.heap.size 29 i0 (.agg #[.int .i64 0, .int .i64 0, .string ⟨#[]⟩]) 3 32 Tryd.underlying26 hi hz0 hz1 hz2 rfl (by decide) _ 0 [] (by rfl) (own_drew6 ((own_made6 W.heap.size W.heap.size W rfl (Nat.le_refl _)).alloc _)) ⟨rb, roff + 0 * 3, none⟩ k rcap (l1.flatMap vC6) (by simp [Act.eval]) (by rw [vC6_len, n1]) (HC1.out _ (SA2.out _ _)) (vC6_one _) (by unfold maxLen; omega) (by omega) (by first | exact Nat.le_refl _ | (simp; done) | (simp; omega)) ?_; intro v1 w3 hown1 hgrow1; have G3 := Lib.hid (grown_then6 (SA2.out _ _) hgrow1 (by intro j hj; simp [Value.ownBlock] at hj; omega)); have F3 := Lib.hid (fun k hk => (hown1.lt k hk).1); have bb3 := SB.out _ G3.out; obtain ⟨p0, p1, p2⟩ := bb3; have cb3 : KBox (W.heap.size + 1) w3 (.int .i64 vk) (.int .i64 vn) (.string vs) := box_far SC2.out hgrow1 (by simp [Value.ownBlock]); have CB3 := Lib.hid cb3)
        | ((with_reducible show @ite _ _ _ (Oper.wp _ _ _ (w3.alloc (.cells #[.int .i64 vk, .int .i64 vn, .string vs] 29)) _ _) _); refine step_append_own6 (w3.alloc (.cells #[.int .i64 vk, .int .i64 vn, .string vs] 29)) (by rfl) (.tmp 57) (.tmp 59) _ (by rfl) W.heap.size 29 i0 (.agg #[.int .i64 0, .int .i64 0, .string ⟨#[]⟩]) 3 32 Tryd.underlying26 hi hz0 hz1 hz2 rfl (by decide) v1 _ _ (by rfl) (hown1.alloc _) ⟨w3.heap.size, 0, none⟩ 1 1 (vC6 ⟨vk, vn, vs⟩) (by rfl) rfl ((vC6_at _ _ _ (KBox.new w3 _ _ _ _))) (vC6_one1 _) (by unfold maxLen; omega) (by omega) (by first | exact G3.out.size | (have := G3.out.size; simp; omega)) ?_; intro v2 w4 hown2 hgrow2; have G4 := Lib.hid (grown_then6 (G3.out.trans (World.grownBy_alloc w3 (.cells #[.int .i64 vk, .int .i64 vn, .string vs] 29) none)) hgrow2 (fun j hj => F3.out j hj)); have F4 := Lib.hid (fun k hk => (hown2.lt k hk).1))
        | ((with_reducible show @ite _ _ _ (Oper.wp _ _ _ (w3) _ _) _); refine step_append_own6 (w3) (by rfl) (.tmp 57) (.tmp 59) _ (by rfl) W.heap.size 29 i0 (.agg #[.int .i64 0, .int .i64 0, .string ⟨#[]⟩]) 3 32 Tryd.underlying26 hi hz0 hz1 hz2 rfl (by decide) v1 _ _ (by rfl) (hown1) ⟨W.heap.size, 0, none⟩ 1 1 (vC6 ⟨vk, vn, vs⟩) (by rfl) rfl (vC6_at _ _ _ CB3.out) (vC6_one1 _) (by unfold maxLen; omega) (by omega) (by first | exact G3.out.size | (have := G3.out.size; simp; omega)) ?_; intro v2 w4 hown2 hgrow2; have G4 := Lib.hid (grown_then6 (G3.out) hgrow2 (fun j hj => F3.out j hj)); have F4 := Lib.hid (fun k hk => (hown2.lt k hk).1))
        | ((with_reducible show @ite _ _ _ (Oper.wp _ _ _ (w3) _ _) _); refine step_append_own6 (w3) (by rfl) (.tmp 57) (.tmp 59) _ (by rfl) W.heap.size 29 i0 (.agg #[.int .i64 0, .int .i64 0, .string ⟨#[]⟩]) 3 32 Tryd.underlying26 hi hz0 hz1 hz2 rfl (by decide) v1 _ _ (by rfl) (hown1) ⟨W.heap.size + 1, 0, none⟩ 1 1 (vC6 ⟨vk, vn, vs⟩) (by rfl) rfl (vC6_at _ _ _ CB3.out) (vC6_one1 _) (by unfold maxLen; omega) (by omega) (by first | exact G3.out.size | (have := G3.out.size; simp; omega)) ?_; intro v2 w4 hown2 hgrow2; have G4 := Lib.hid (grown_then6 (G3.out) hgrow2 (fun j hj => F3.out j hj)); have F4 := Lib.hid (fun k hk => (hown2.lt k hk).1))
        | ((with_reducible show @ite _ _ _ (Oper.wp _ _ _ (w4) _ _) _); refine step_append_own6 (w4) (by rfl) (.tmp 60) (.tmp 64) _ (by rfl) W.heap.size 29 i0 (.agg #[.int .i64 0, .int .i64 0, .string ⟨#[]⟩]) 3 32 Tryd.underlying26 hi hz0 hz1 hz2 rfl (by decide) v2 _ _ (by rfl) hown2 ⟨rb, roff + (k + 1) * 3, none⟩ (q - (k + 1)) (rcap - (k + 1)) (l2.flatMap vC6) (by rfl) (by rw [vC6_len, n2]) (HC2.out _ G4.out) (vC6_one _) (by unfold maxLen; omega) (by omega) G4.out.size ?_; intro v3 w5 hown3 hgrow3; have G5 := Lib.hid (grown_then6 G4.out hgrow3 (fun j hj => F4.out j hj))))
      all_goals
        have e1 : 0 + k + 1 + (q - (k + 1)) = q := by omega
        have e2 : [] ++ l1.flatMap vC6 ++ vC6 ⟨vk, vn, vs⟩ ++ l2.flatMap vC6 = (l1 ++ [(⟨vk, vn, vs⟩ : Vv)] ++ l2).flatMap vC6 := by simp [List.flatMap_append]
        rw [e1, e2] at hown3
        go_wp2_with fail
        go_meet
        exact ⟨G5, Lib.hid hown3⟩
  case rest =>
  obtain ⟨GX, OX⟩ := hcut
  have lw : (l1 ++ [(⟨vk, vn, vs⟩ : Vv)] ++ l2).length = q := by rw [List.length_append, List.length_append, n1, n2]; simp; omega
  obtain ⟨wa, wcap, rfl, hwc, hwv⟩ := own_vv6 (by rw [lw]; exact OX.out) (by rw [lw]; omega)
  have HG2 := Lib.hid (show goodB vk vn vs = true from HGB.out)
  have HFW : Hid (Fits l (l1 ++ [(⟨vk, vn, vs⟩ : Vv)] ++ l2) ↔ (decide (vk = xk) || (decide (vk = 0) && xb)) = true) := Lib.hid (by
    have := fits_with6 (k := k) (v := ⟨vk, vn, vs⟩) HF.out (by rw [Hq.out]; exact hk) HG2.out
    rw [← Hx.out, Hq.out, ← L1.out, ← L2.out] at this
    exact this)
  rw [lw]
  have HC6 := Lib.hid (fun W' (hW : W.grownBy W' none) => (H.out.keep (GW.out.trans hW) (by simp)).mono (GW.out.trans hW).size)
  have HR6 := Lib.hid (fun W' (hW : W.grownBy W' none) => (HR.out.keep (GW.out.trans hW) (by simp)).mono (GW.out.trans hW).size)
  have HV6 := Lib.hid (fun W' (hW : wc.grownBy W' none) => (hwv.keep hW (by simp)).mono hW.size)
  have S2 := Lib.hid (fun W' (hW : W.grownBy W' none) => S.out.keep hW)
  obtain ⟨x0, x1, x2⟩ := HX.out.keep GX.out
  obtain ⟨_, ⟨a0, a1, a2⟩, ⟨b0, b1, b2⟩, _⟩ := S2.out _ GX.out
  obtain ⟨gd, hgd⟩ : ∃ gd : Bool, gd = (decide (vk = xk) || (decide (vk = 0) && xb)) := ⟨_, rfl⟩
  have HGd := Lib.hid hgd
  rw [← hgd] at HFW
  have OY : Hid (wc.ownsRow W.heap.size 29 3 (.slice wa q wcap) q ((l1 ++ [(⟨vk, vn, vs⟩ : Vv)] ++ l2).flatMap vC6)) := Lib.hid (by have := OX.out; rw [lw] at this; exact this)
  clear OX hwv r0 r1 r2 r3 r4 r5 r6 r8 hwr hi hz0 hz1 hz2 HC1 HC2 L1 L2
  go_upto_region 7 with fail
  go_cut [12] (fun s12 wx => s12 = .bool gd ∧ wx = wc)
  case first =>
    by_cases h1 : vk = xk
    · have h1' : (vk == xk) = true := by simp [h1]
      have hg1 : gd = true := by rw [hgd]; simp [h1]
      clear h1 hgd
      subst hg1
      go_wp2_with fail
      go_meet
      exact ⟨rfl, rfl⟩
    · have h1' : (vk == xk) = false := by simp [h1]
      by_cases h2 : vk = 0
      · have h2' : (vk == 0) = true := by simp [h2]
        have h1b : ¬ (0 : Int) = xk := by rw [← h2]; exact h1
        have hg1 : gd = xb := by rw [hgd, h2]; simp [h1b]
        clear h1 h2 h1b hgd
        subst hg1
        go_wp2_with fail
        go_meet
        exact ⟨rfl, rfl⟩
      · have h2' : (vk == 0) = false := by simp [h2]
        have hg1 : gd = false := by rw [hgd]; simp [h1, h2]
        clear h1 h2 hgd
        subst hg1
        go_wp2_with fail
        go_meet
        exact ⟨rfl, rfl⟩
  case rest =>
  obtain ⟨rfl, rfl⟩ := hcut
  clear hgd x0 x1 x2
  obtain ⟨L, hL⟩ : ∃ L, L = l1 ++ [(⟨vk, vn, vs⟩ : Vv)] ++ l2 := ⟨_, rfl⟩
  rw [← hL] at lw hwc HV6 HFW OY
  have HLm := Lib.hid (And.intro lw Hm.out)
  clear hL
  obtain ⟨x, hx, C1⟩ : ∃ x : Int, (x == 0) = gd ∧ Hid (∀ W', wc.grownBy W' none → Calls Tryd.prog 7 #[.agg #[.string N, .slice (some ⟨cb, coff, none⟩) q ccap, .int .i64 K], .slice wa q wcap] W' fun e w' => e = .returned (.int .i64 x) ∧ W'.grownBy w' none) := by
    have hrow := fun W' (hW : wc.grownBy W' none) => row_any6 N K (some ⟨cb, coff, none⟩) wa ccap wcap l L W' (HC6.out _ (GX.out.trans hW)) (HV6.out _ hW)
    rw [HLm.out.1, HLm.out.2] at hrow
    cases gd
    · exact ⟨20, rfl, Lib.hid fun W' hW => (hrow W' hW).mono fun e w' h => ⟨h.1.2 (fun hf => by simpa using HFW.out.1 hf), h.2⟩⟩
    · exact ⟨0, rfl, Lib.hid fun W' hW => (hrow W' hW).mono fun e w' h => ⟨h.1.1 (HFW.out.2 rfl), h.2⟩⟩
  obtain ⟨p, hp⟩ : ∃ p, p + 1 = q := ⟨q - 1, by omega⟩
  have C2 : Hid (∀ W', W.grownBy W' none → Calls Tryd.prog 7 #[.agg #[.string N, .slice (some ⟨cb, coff, none⟩) q ccap, .int .i64 K], .slice (some ⟨rb, roff, none⟩) p rcap] W' fun e w' => e = .returned (.int .i64 20) ∧ W'.grownBy w' none) := Lib.hid fun W' hW => by
    have hl : (r.take p).length = p := by rw [List.length_take, Hq.out]; omega
    have hrow := row_any6 N K (some ⟨cb, coff, none⟩) (some ⟨rb, roff, none⟩) ccap rcap l (r.take p) W' (HC6.out _ hW) ((HR6.out _ hW).take p)
    rw [hl, HLm.out.2] at hrow
    exact hrow.mono fun e w' h => ⟨h.1.2 (fits_not6 (by rw [hl, HLm.out.2]; omega)), h.2⟩
  have C3 : Hid (∀ W' a' c' L', W.grownBy W' none → L'.length = q + 1 → VvAt W'.heap.size W' a' L' → Calls Tryd.prog 7 #[.agg #[.string N, .slice (some ⟨cb, coff, none⟩) q ccap, .int .i64 K], .slice a' (q + 1) c'] W' fun e w' => e = .returned (.int .i64 20) ∧ W'.grownBy w' none) := Lib.hid fun W' a' c' L' hW hl hv => by
    have hrow := row_any6 N K (some ⟨cb, coff, none⟩) a' ccap c' l L' W' (HC6.out _ hW) hv
    rw [hl, HLm.out.2] at hrow
    exact hrow.mono fun e w' h => ⟨h.1.2 (fits_not6 (by rw [hl, HLm.out.2]; omega)), h.2⟩
  have hwp : IntKind.i64.wrap ((q : Int) - 1) = (p : Int) := by rw [IntKind.wrap_i64]; omega
  have p0 : (0 : Int) ≤ (p : Int) := Int.natCast_nonneg _
  have p1 : (p : Int) ≤ rcap := by omega
  have p2 : (p : Int) ≤ q := by omega
  have HL := Lib.hid lw
  have Hp := Lib.hid hp
  obtain ⟨i0, hi, hz0, hz1, hz2⟩ := info_parts6 val_info6
  have HI := Lib.hid (And.intro hi (And.intro hz0 (And.intro hz1 hz2)))
  have HL1 := Lib.hid (show (L ++ [(⟨vk, vn, vs⟩ : Vv)]).length = q + 1 by rw [List.length_append, lw]; rfl)
  clear hp lw hwc q0 q1 q2 r7 n1 n2 hi hz0 hz1 hz2
  have GX0 := Lib.hid (grown_drew6 GX.out)
  have SB := Lib.hid (fun W' (hW : W.grownBy W' none) => show (W'.cell? ⟨w.heap.size, 0, none⟩ = some (.string N) ∧ W'.cell? ⟨w.heap.size, 1, none⟩ = some (.slice (some ⟨cb, coff, none⟩) q ccap) ∧ W'.cell? ⟨w.heap.size, 2, none⟩ = some (.int .i64 K)) ∧ W'.cell? ⟨w.heap.size + 1 + 1, 0, none⟩ = some (.int .i64 vk) ∧ W'.cell? ⟨w.heap.size + 1 + 1, 1, none⟩ = some (.int .i64 vn) ∧ W'.cell? ⟨w.heap.size + 1 + 1, 2, none⟩ = some (.string vs) from ⟨(S2.out _ hW).2.1, (S2.out _ hW).2.2.1⟩)
  go_upto_region 8 with fail
  go_region_held3 (fun W' => (W'.cell? ⟨w.heap.size, 0, none⟩ = some (.string N) ∧ W'.cell? ⟨w.heap.size, 1, none⟩ = some (.slice (some ⟨cb, coff, none⟩) q ccap) ∧ W'.cell? ⟨w.heap.size, 2, none⟩ = some (.int .i64 K)) ∧ W'.cell? ⟨w.heap.size + 1 + 1, 0, none⟩ = some (.int .i64 vk) ∧ W'.cell? ⟨w.heap.size + 1 + 1, 1, none⟩ = some (.int .i64 vn) ∧ W'.cell? ⟨w.heap.size + 1 + 1, 2, none⟩ = some (.string vs)) (first | exact SB.out _ G9.out | exact SB.out _ G8.out | exact SB.out _ G7.out | exact SB.out _ G6.out | exact SB.out _ GX0.out | go_keep) (first
    | (go_at_call_of 7 (Value.slice wa q wcap); (with_reducible refine (C1.out wc.drew (grown_drew6 (grown_refl6 _ none))).mono ?_); rintro e w6 ⟨rfl, hg6⟩; have G6 := Lib.hid (GX0.out.trans hg6); have O6 := Lib.hid (World.ownsRow.kept OY.out ((grown_drew6 (grown_refl6 wc none)).trans hg6) (by cases (Value.slice wa q wcap).ownBlock <;> simp)); clear hg6)
    | (go_at_call_of 7 (Value.slice (some ⟨rb, roff, none⟩) p rcap); (with_reducible refine (C2.out w6 G6.out).mono ?_); rintro e w7 ⟨rfl, hg7⟩; have G7 := Lib.hid (G6.out.trans hg7); have O7 := Lib.hid (World.ownsRow.kept O6.out hg7 (by cases (Value.slice wa q wcap).ownBlock <;> simp)); clear hg7)
    | ((with_reducible show @ite _ _ _ (Oper.wp _ _ _ (w7.alloc (.cells #[.int .i64 vk, .int .i64 vn, .string vs] 29)) _ _) _); refine step_append_own6g (w7.alloc (.cells #[.int .i64 vk, .int .i64 vn, .string vs] 29)) (by rfl) (.tmp 98) (.tmp 100) _ (by rfl) W.heap.size 29 i0 (.agg #[.int .i64 0, .int .i64 0, .string ⟨#[]⟩]) 3 32 Tryd.underlying26 HI.out.1 HI.out.2.1 HI.out.2.2.1 HI.out.2.2.2 rfl (by decide) (.slice wa q wcap) q (L.flatMap vC6) (by rfl) (O7.out.alloc _) ⟨w7.heap.size, 0, none⟩ 1 1 (vC6 ⟨vk, vn, vs⟩) (by rfl) rfl (vC6_at _ _ _ (KBox.new w7 _ _ _ _)) (vC6_one1 _) (by unfold maxLen; omega) (by omega) (by have := G7.out.size; simp; omega) ?_; intro v8 w8 hown8 hgrow8; obtain ⟨a8, c8, rfl, hv8⟩ := own_more6 hown8 HL.out (by omega); have G8 := Lib.hid (grown_then6 (G7.out.trans (World.grownBy_alloc w7 (.cells #[.int .i64 vk, .int .i64 vn, .string vs] 29) none)) hgrow8 (fun j hj => (O7.out.lt j hj).1)); have H8 := Lib.hid hv8; clear hown8 hgrow8 hv8)
    | (go_at_call 7; (with_reducible refine (C3.out w8 a8 c8 (L ++ [(⟨vk, vn, vs⟩ : Vv)]) G8.out HL1.out H8.out).mono ?_); rintro e w9 ⟨rfl, hg9⟩; have G9 := Lib.hid (G8.out.trans hg9); clear hg9))
  all_goals
    go_wp2_with fail
    go_ret
    exact ⟨rfl, below6 (GW.out.trans G9.out)⟩
end Go.Proofs.YtampkmmfkdekaaaDoor
