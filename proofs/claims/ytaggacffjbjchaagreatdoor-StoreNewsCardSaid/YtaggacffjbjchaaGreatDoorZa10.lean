/- What schema's twice answers at any table. What the listed variables of layer 9 give: the handle, and schema's errors. tree's turnedRight, turnedLeft and balanced at trees in memory. -/
import Derived.Test.YtaggacffjbjchaaGreatDoorZa08
import Derived.Test.YtaggacffjbjchaaGreatDoorZa01
import Derived.Test.YtaggacffjbjchaaGreatDoorZa06
namespace Go.Proofs.YtaggacffjbjchaaGreatDoor
open Go.RowKit

def Apart6 (ts : List Tb) (N : ByteArray) : Prop := ∀ i, i < ts.length → ((ts.getD i default).n.toList == N.toList) = false
def Once6 (l : List Cl) (k : Nat) : Prop := ∀ i, i < k → ∀ j, j < i → ((l.getD j default).n.toList == (l.getD i default).n.toList) = false
set_option maxRecDepth 100000 in
set_option maxHeartbeats 3200000 in
theorem twice_table (a ca : Option Addr) (cap ccap m : Nat) (ts : List Tb) (N : ByteArray) (K : Int) (w : World) (ht : TabsAt w.heap.size w a ts) (hw : WhyG w) (hd : ¬ Apart6 ts N) :
    Calls Tryz.prog 80 #[.slice a ts.length cap, .agg #[.string N, .slice ca m ccap, .int .i64 K]] w fun e w' => (∃ ty p, e = .returned (.iface ty p)) ∧ w.grownBy w' none := by
  have HT : Hid (∀ W, w.grownBy W none → Calls Tryz.prog 97 #[.slice a ts.length cap, .string N] W fun e w' => (∃ k : Nat, e = .returned (.int .i64 k)) ∧ W.grownBy w' none) := Lib.hid fun W hW => by
    refine (tableOf_any a cap ts N W ((ht.keep hW (by simp)).mono hW.size)).mono ?_
    rintro e w' ⟨⟨r, rfl, hr⟩, hg⟩
    rcases hr with ⟨rfl, h⟩ | ⟨k, rfl, _⟩
    · exact absurd h hd
    · exact ⟨⟨k, rfl⟩, hg⟩
  have HW := Lib.hid hw
  generalize ts.length = tn at *
  clear ht hd hw
  have K0 := Lib.hid (World.grownBy_alloc w (.cells #[.string N, .slice ca m ccap, .int .i64 K] 38) none)
  go_enter Tryz.func80, Tryz.ntmps80
  go_wp2_with fail
  refine (HT.out _ K0.out).mono ?_
  rintro e w1 ⟨⟨k, rfl⟩, hg⟩
  have K1 := Lib.hid (K0.out.trans hg)
  obtain ⟨ty, p, hE⟩ := (HW.out.grown K1.out).table
  have hk : (0 : Int) ≤ (k : Int) := by omega
  clear hg
  go_wp2_with fail
  go_ret
  exact ⟨⟨ty, p, rfl⟩, K1.out⟩
set_option maxRecDepth 100000 in
set_option maxHeartbeats 3200000 in
theorem twice_cols (a ca : Option Addr) (cap ccap : Nat) (ts : List Tb) (l : List Cl) (N : ByteArray) (K : Int) (w : World) (ht : TabsAt w.heap.size w a ts) (h : ColsAt w.heap.size w ca l) (hcap : l.length ≤ ccap) (hw : WhyG w) (hd : Apart6 ts N) :
    Calls Tryz.prog 80 #[.slice a ts.length cap, .agg #[.string N, .slice ca l.length ccap, .int .i64 K]] w fun e w' => (Once6 l l.length ∧ e = .returned .nilIface ∨ ¬ Once6 l l.length ∧ ∃ ty p, e = .returned (.iface ty p)) ∧ w.grownBy w' none := by
  have HT : Hid (∀ W, w.grownBy W none → Calls Tryz.prog 97 #[.slice a ts.length cap, .string N] W fun e w' => e = .returned (.int .i64 (-1)) ∧ W.grownBy w' none) := Lib.hid fun W hW => by
    refine (tableOf_any a cap ts N W ((ht.keep hW (by simp)).mono hW.size)).mono ?_
    rintro e w' ⟨⟨r, rfl, hr⟩, hg⟩
    rcases hr with ⟨rfl, _⟩ | ⟨k, rfl, hk, hm, _⟩
    · exact ⟨rfl, hg⟩
    · rw [hd k hk] at hm; cases hm
  have HC : Hid (∀ k, k < l.length → ∀ W, w.grownBy W none → Calls Tryz.prog 98 #[.slice ca k ccap, .string (l.getD k default).n] W fun e w' => ((∀ j, j < k → ((l.getD j default).n.toList == (l.getD k default).n.toList) = false) ∧ e = .returned (.int .i64 (-1)) ∨ ∃ j : Nat, (j < k ∧ ((l.getD j default).n.toList == (l.getD k default).n.toList) = true) ∧ e = .returned (.int .i64 j)) ∧ W.grownBy w' none) := Lib.hid fun k hk W hW => by
    have hl : (l.take k).length = k := by rw [List.length_take]; omega
    have hc := columnOf_any ca ccap (l.take k) (l.getD k default).n W ((((h.keep hW (by simp)).mono hW.size).pre (by omega)))
    rw [hl] at hc
    have he : ∀ j, j < k → (l.take k).getD j default = l.getD j default := fun j hj => by simp [List.getD, hj]
    refine hc.mono ?_
    rintro e w' ⟨⟨r, rfl, hr⟩, hg⟩
    rcases hr with ⟨rfl, hn⟩ | ⟨j, rfl, hj, hm, _⟩
    · exact ⟨.inl ⟨fun j hj => by rw [← he j hj]; exact hn j (by rw [hl]; exact hj), rfl⟩, hg⟩
    · rw [hl] at hj
      exact ⟨.inr ⟨j, ⟨hj, by rw [← he j hj]; exact hm⟩, rfl⟩, hg⟩
  have H := Lib.hid h
  have HB := Lib.hid (box3_new6 w (.string N) (.slice ca l.length ccap) (.int .i64 K) 38)
  have HW := Lib.hid hw
  have hlen := h.1
  obtain ⟨n, hn⟩ : ∃ n, n = l.length := ⟨_, rfl⟩
  have Hn := Lib.hid hn
  rw [← hn] at hlen HB hcap HC ⊢
  generalize ts.length = tn at *
  clear h hn ht hd hw
  have K0 := Lib.hid (World.grownBy_alloc w (.cells #[.string N, .slice ca n ccap, .int .i64 K] 38) none)
  go_enter Tryz.func80, Tryz.ntmps80
  go_wp2_with fail
  refine (HT.out _ K0.out).mono ?_
  rintro e w1 ⟨rfl, hg⟩
  have K1 := Lib.hid (K0.out.trans hg)
  obtain ⟨g0, g1, g2⟩ := HB.out
  have d1 := hg.cell g1 (by simp)
  have D1 := Lib.hid (fun (W : World) (hW : w1.grownBy W none) => (hg.trans hW).cell g1 (by simp))
  clear hg g0 g1 g2
  go_wp2_with fail
  clear d1
  go_loopw [16] (fun i wr => ∃ (k : Nat), i = .int .i64 k ∧ k ≤ n ∧ Hid (Once6 l k) ∧ Hid (w1.grownBy wr none)) (fun i _ => n - (intOf i).toNat)
  case atStart => exact ⟨0, rfl, by omega, Lib.hid (fun i hi => by omega), Lib.hid (grown_refl6 _ _)⟩
  case round =>
    obtain ⟨k, rfl, hk, E, KR⟩ := hrel
    by_cases hlt : k < n
    · obtain ⟨b, off, rfl, _, c0, c1, c2⟩ := (H.out.keep (K1.out.trans KR.out) (by simp)).at (i := k) (by rw [← Hn.out]; exact hlt)
      have HX := Lib.hid (HC.out k hlt)
      have Good : Hid ((∀ j, j < k → ((l.getD j default).n.toList == (l.getD k default).n.toList) = false) → Once6 l (k + 1)) := Lib.hid fun hb i hi => by
        by_cases e : i = k
        · rw [e]; exact hb
        · exact E.out i (by omega)
      have Bad : Hid (∀ j, j < k → ((l.getD j default).n.toList == (l.getD k default).n.toList) = true → ¬ Once6 l n) := Lib.hid fun j hj hb ho => by
        rw [ho k hlt j hj] at hb; cases hb
      obtain ⟨P, hP⟩ : ∃ P : Prop, P = ∀ j, j < k → ((l.getD j default).n.toList == (l.getD k default).n.toList) = false := ⟨_, rfl⟩
      rw [← hP] at HX Good
      obtain ⟨Q, hQ⟩ : ∃ Q : Nat → Prop, Q = fun j => j < k ∧ ((l.getD j default).n.toList == (l.getD k default).n.toList) = true := ⟨_, rfl⟩
      have Bad2 : Hid (∀ j, Q j → ¬ Once6 l n) := Lib.hid fun j hj => by rw [hQ] at hj; exact Bad.out j hj.1 hj.2
      have HX2 : Hid (∀ W, w.grownBy W none → Calls Tryz.prog 98 #[.slice (some ⟨b, off, none⟩) k ccap, .string (l.getD k default).n] W fun e w' => (P ∧ e = .returned (.int .i64 (-1)) ∨ ∃ j : Nat, Q j ∧ e = .returned (.int .i64 j)) ∧ W.grownBy w' none) := Lib.hid (by rw [hQ]; exact HX.out)
      have PQ : P → ∀ j, Q j → False := by
        rw [hP, hQ]
        intro h j hj
        rw [h j hj.1] at hj
        cases hj.2
      clear hP hQ HX Bad
      generalize l.getD k default = x at *
      obtain ⟨xn, xk, xb⟩ := x
      simp only at c0 c1 c2 HX2
      have d1 : ∀ o, (wr.alloc o).cell? ⟨w.heap.size, 1, none⟩ = some (.slice (some ⟨b, off, none⟩) n ccap) := fun o => D1.out _ (KR.out.trans (World.grownBy_alloc wr o none))
      have KA := Lib.hid (fun o => K1.out.trans (KR.out.trans (World.grownBy_alloc wr o none)))
      have KA1 := Lib.hid (fun o => KR.out.trans (World.grownBy_alloc wr o none))
      have j0 : (k : Int) ≤ ccap := by omega
      by_cases hp : P
      · have HX3 : Hid (∀ W, w.grownBy W none → Calls Tryz.prog 98 #[.slice (some ⟨b, off, none⟩) k ccap, .string xn] W fun e w' => e = .returned (.int .i64 (-1)) ∧ W.grownBy w' none) := Lib.hid (fun W hW => (HX2.out W hW).mono (fun e w' h => ⟨by
          rcases h.1 with ⟨_, h⟩ | ⟨j, hq, _⟩
          · exact h
          · exact (PQ hp j hq).elim, h.2⟩))
        have hgood := Lib.hid (Good.out hp)
        clear PQ HX2 hp
        go_wp2_with fail
        go_region_with (go_at_call 98; (with_reducible refine (HX3.out _ (by first | exact KA.out _ | exact grown_drew6 (KA.out _))).mono ?_); rintro e w3 ⟨rfl, hg3⟩; have K3 := Lib.hid hg3)
        all_goals
          go_wp2_with fail
          go_roundw
          case rel => exact ⟨k + 1, by go_num, by omega, hgood, Lib.hid ((grown_drew6 (KA1.out _)).trans K3.out)⟩
          case measure => simp [intOf]; omega
      · have HX3 : Hid (∀ W, w.grownBy W none → Calls Tryz.prog 98 #[.slice (some ⟨b, off, none⟩) k ccap, .string xn] W fun e w' => (∃ j : Nat, Q j ∧ e = .returned (.int .i64 j)) ∧ W.grownBy w' none) := Lib.hid (fun W hW => (HX2.out W hW).mono (fun e w' h => ⟨by
          rcases h.1 with ⟨h, _⟩ | h
          · exact (hp h).elim
          · exact h, h.2⟩))
        clear PQ HX2 hp
        go_wp2_with fail
        go_region_with (go_at_call 98; (with_reducible refine (HX3.out _ (by first | exact KA.out _ | exact grown_drew6 (KA.out _))).mono ?_); rintro e w3 ⟨⟨j, hq, rfl⟩, hg3⟩; have K3 := Lib.hid hg3)
        all_goals
          have hbad := Lib.hid (Bad2.out j hq)
          have K4 := Lib.hid ((grown_drew6 (KA.out _)).trans K3.out)
          obtain ⟨ty, p, hE⟩ := (HW.out.grown K4.out).twice
          have hj0 : (0 : Int) ≤ (j : Int) := by omega
          go_wp2_with fail
          go_ret
          exact ⟨.inr ⟨hbad.out, ty, p, rfl⟩, K4.out⟩
    · obtain rfl : k = n := by omega
      go_wp2_with fail
      go_ret
      exact ⟨.inl ⟨E.out, rfl⟩, K1.out.trans KR.out⟩
/-- twice at any table. -/
theorem twice_any (a ca : Option Addr) (cap ccap : Nat) (ts : List Tb) (l : List Cl) (N : ByteArray) (K : Int) (w : World) (ht : TabsAt w.heap.size w a ts) (h : ColsAt w.heap.size w ca l) (hcap : l.length ≤ ccap) (hw : WhyG w) :
    Calls Tryz.prog 80 #[.slice a ts.length cap, .agg #[.string N, .slice ca l.length ccap, .int .i64 K]] w fun e w' => ((Apart6 ts N ∧ Once6 l l.length) ∧ e = .returned .nilIface ∨ ¬ (Apart6 ts N ∧ Once6 l l.length) ∧ ∃ ty p, e = .returned (.iface ty p)) ∧ w.grownBy w' none := by
  by_cases hd : Apart6 ts N
  · refine (twice_cols a ca cap ccap ts l N K w ht h hcap hw hd).mono fun e w' ⟨h, g⟩ => ⟨?_, g⟩
    rcases h with ⟨h1, h2⟩ | ⟨h1, h2⟩
    · exact .inl ⟨⟨hd, h1⟩, h2⟩
    · exact .inr ⟨fun h => h1 h.2, h2⟩
  · exact (twice_table a ca cap ccap l.length ts N K w ht hw hd).mono fun e w' ⟨h, g⟩ => ⟨.inr ⟨fun h => hd h.1, h⟩, g⟩
end Go.Proofs.YtaggacffjbjchaaGreatDoor
namespace Go.Proofs.YtaggacffjbjchaaGreatDoor
open Go.ChangeShapes Go.WideShapes Go.ChangeAt Go.RowKit Go.Joins Go.Deep

theorem et_named : Tryz.prog.globalNamed "errors.errorType" = some 0 := by kernel_rfl
theorem rt_named : (Tryz.prog.cutTypes.find? (·.1 == "internal/reflectlite.rtype")).map (·.2) = some 175 := by kernel_rfl
theorem types_size : Tryz.prog.types.size = 258 := by kernel_rfl
theorem one_error : ((List.range 258).filter fun t => Tryz.prog.rowNamed t [101, 114, 114, 111, 114]) = [115] := by kernel_rfl
/-- The variable errors.errorType, out of the condition. -/
theorem handle_of {l : List (String × DataW Unit)} {W : World} (h : handlesMet Tryz.prog l W) (hm : ("errors.errorType", Rows.laid_errors_errorType) ∈ l) : ErrT W.heap.size W := by
  obtain ⟨name, u, ty, e1, e2, e3, e4, e5⟩ := h _ hm
  have en : name = [101, 114, 114, 111, 114] := (Option.some.inj e1).symm
  subst en
  obtain rfl := Option.some.inj (rt_named.symm.trans e2)
  have hm : ty ∈ (List.range 258).filter fun t => Tryz.prog.rowNamed t [101, 114, 114, 111, 114] := List.mem_filter.2 ⟨List.mem_range.2 (by rw [← types_size]; exact e3), e4⟩
  rw [one_error] at hm
  obtain rfl := List.mem_singleton.1 hm
  have hh : typeHandle Tryz.prog 115 = .pointer (some ⟨10, 115, none⟩) := by kernel_rfl
  rw [hh] at e5
  have hc : W.cell? ⟨0, 0, none⟩ = some (.iface 175 (.agg #[.pointer (some ⟨10, 115, none⟩)])) := by simpa using World.var?_cell et_named e5 0
  exact ⟨block_lt_of_cell hc, hc⟩
theorem star_err : "*" ++ "errors.errorString" = "*errors.errorString" := by decide
theorem row_err (u : TypeId) (h : Tryz.prog.typeName? 3 u = some "*errors.errorString") : u = 225 :=
  typeName_ptr_named (nm := "errors.errorString") (by rw [star_err]; kernel_rfl) (by kernel_rfl) (by decide) u (by rw [star_err]; exact h)
theorem sentinel_of {n : String} {text : List UInt8} {r : List (String × DataW Unit)} {W : World} {g : Nat} (h : laidMet Tryz.prog ((n, .iface "*errors.errorString" (.ptr (.agg [.lit (.string text)]))) :: r) W) (hg : Tryz.prog.globalNamed n = some g) (ht : (Tryz.prog.globals[g]?).map (·.type) = some 115) :
    g < W.heap.size ∧ ∃ t p, W.cell? ⟨g, 0, none⟩ = some (.iface t p) := by
  obtain ⟨a, s, hv, _⟩ := laid_sentinel h hg ht Tryz.underlying115 row_err Tryz.underlying225 Tryz.underlying246 rfl rfl Tryz.underlying9 (by kernel_rfl) (by kernel_rfl)
  have hc : W.cell? ⟨g, 0, none⟩ = some (.iface 225 (.pointer (some a))) := by simpa using World.var?_cell hg hv 0
  exact ⟨block_lt_of_cell hc, _, _, hc⟩

def tail8s : List (String × DataW Unit) := [("stillroom/schema.errMany", Rows.laid_stillroom_schema_errMany), ("stillroom/schema.errWidth", Rows.laid_stillroom_schema_errWidth), ("stillroom/schema.errName", Rows.laid_stillroom_schema_errName), ("stillroom/schema.errKind", Rows.laid_stillroom_schema_errKind), ("stillroom/schema.errKeys", Rows.laid_stillroom_schema_errKeys), ("stillroom/schema.errNull", Rows.laid_stillroom_schema_errNull), ("stillroom/schema.errTable", Rows.laid_stillroom_schema_errTable), ("stillroom/schema.errTwice", Rows.laid_stillroom_schema_errTwice)]
theorem split9s {W : World} (h : laidMetH Tryz.prog laid9s W) : laidMet Tryz.prog tail8s W ∧ handlesMet Tryz.prog [("errors.errorType", Rows.laid_errors_errorType)] W := h
theorem errT_of9s {W : World} (h : laidMetH Tryz.prog laid9s W) : ErrT W.heap.size W := handle_of (split9s h).2 (by simp)
theorem whyG_of9s {W : World} (h : laidMetH Tryz.prog laid9s W) : WhyG W := by
  have h1 := (split9s h).1
  have h2 := h1.tail
  have h3 := h2.tail
  have h4 := h3.tail
  have h5 := h4.tail
  have h6 := h5.tail
  have h7 := h6.tail
  have h8 := h7.tail
  exact ⟨(sentinel_of h1 (by kernel_rfl) (by kernel_rfl)).2, (sentinel_of h2 (by kernel_rfl) (by kernel_rfl)).2, (sentinel_of h3 (by kernel_rfl) (by kernel_rfl)).2, (sentinel_of h4 (by kernel_rfl) (by kernel_rfl)).2, (sentinel_of h5 (by kernel_rfl) (by kernel_rfl)).2, (sentinel_of h6 (by kernel_rfl) (by kernel_rfl)).2, (sentinel_of h7 (by kernel_rfl) (by kernel_rfl)).2, (sentinel_of h8 (by kernel_rfl) (by kernel_rfl)).2⟩
end Go.Proofs.YtaggacffjbjchaaGreatDoor
namespace Go.Proofs.YtaggacffjbjchaaGreatDoor
open Go.RowKit

theorem top_makes (S : Nat → Prop) (l r : Tre) (k v : List Vl) (lp rp ka va : Option Addr) (kc vc : Nat) (w : World) (hS : ∀ b, w.heap.size ≤ b → S b) (hl : TrAt S w l lp) (hr : TrAt S w r rp) (hk : RwS S w ka k) (hv : RwS S w va v) (hn : l.n + r.n ≤ 1073741824) :
    Makes 122 #[.pointer lp, .agg #[.slice ka k.length kc, .slice va v.length vc], .pointer rp] w (fun W p => TrAt S W (.node l k v r) p) := top_any S l r k v lp rp ka va kc vc w hS hl hr hk hv hn
theorem hsS {S : Nat → Prop} {w W : World} (hS : ∀ b, w.heap.size ≤ b → S b) (hg : w.grownBy W none) : ∀ b, W.heap.size ≤ b → S b := fun b hb => hS b (Nat.le_trans hg.size hb)
theorem turnedRight_any (S : Nat → Prop) (l r : Tre) (k v : List Vl) (lp rp ka va : Option Addr) (kc vc : Nat) (w : World) (hS : ∀ b, w.heap.size ≤ b → S b) (hl : TrAt S w l lp) (hr : TrAt S w r rp) (hk : RwS S w ka k) (hv : RwS S w va v) (hn : l.n + r.n ≤ 1073741823) (hh : 0 < l.h) :
    Makes 120 #[.pointer lp, .agg #[.slice ka k.length kc, .slice va v.length vc], .pointer rp] w (fun W p => TrAt S W (Tr.rotR l k v r) p) := by
  cases l with
  | nil => simp [Tr.h] at hh
  | node ll lk lv lr =>
    obtain ⟨b, lka, lkc, lva, lvc, llp, lrp, rfl, _, _, ⟨c0, c1, c2, c3, _, _⟩, h1, h2, h3, h4⟩ := hl
    simp only [Tr.n] at hn
    by_cases hc : lr.h ≤ ll.h
    · have e : Tr.rotR (.node ll lk lv lr) k v r = .node ll lk lv (.node lr k v r) := by simp [Tr.rotR, hc]
      rw [e]
      exact turnR_one b llp lrp rp ka va lka lva k.length kc v.length vc lk.length lkc lv.length lvc ll.h lr.h w (fun W p => TrAt S W (.node lr k v r) p) _ hc ⟨c0, c1, c2, c3⟩
        (Lib.hid fun W hW => height_any S ll llp W (h3.keep (.of hW))) (Lib.hid fun W hW => height_any S lr lrp W (h4.keep (.of hW)))
        (Lib.hid fun W hW => top_makes S lr r k v lrp rp ka va kc vc W (hsS hS hW) (h4.keep (.of hW)) (hr.keep (.of hW)) (hk.keep (.of hW)) (hv.keep (.of hW)) (by omega))
        (Lib.hid fun W p hW hp => top_makes S ll (.node lr k v r) lk lv llp p lka lva lkc lvc W (hsS hS hW) (h3.keep (.of hW)) hp (h1.keep (.of hW)) (h2.keep (.of hW)) (by simp only [Tr.n]; omega))
    · cases lr with
      | nil => simp [Tr.h] at hc
      | node a ik iv d =>
        have e : Tr.rotR (.node ll lk lv (.node a ik iv d)) k v r = .node (.node ll lk lv a) ik iv (.node d k v r) := by simp [Tr.rotR, hc]
        rw [e]
        have H4 := h4
        obtain ⟨c, ika, ikc, iva, ivc, ilp, irp, rfl, _, _, ⟨e0, e1, e2, e3, _, _⟩, g1, g2, g3, g4⟩ := h4
        simp only [Tr.n] at hn
        exact turnR_two b c llp ilp irp rp ka va lka lva ika iva k.length kc v.length vc lk.length lkc lv.length lvc ik.length ikc iv.length ivc ll.h (Tr.h (.node a ik iv d)) w (fun W p => TrAt S W (.node ll lk lv a) p) (fun W p => TrAt S W (.node d k v r) p) _ (by omega) ⟨c0, c1, c2, c3⟩ ⟨e0, e1, e2, e3⟩
          (Lib.hid fun W hW => height_any S ll llp W (h3.keep (.of hW))) (Lib.hid fun W hW => height_any S _ _ W (H4.keep (.of hW)))
          (Lib.hid fun W hW => top_makes S ll a lk lv llp ilp lka lva lkc lvc W (hsS hS hW) (h3.keep (.of hW)) (g3.keep (.of hW)) (h1.keep (.of hW)) (h2.keep (.of hW)) (by omega))
          (Lib.hid fun W hW => top_makes S d r k v irp rp ka va kc vc W (hsS hS hW) (g4.keep (.of hW)) (hr.keep (.of hW)) (hk.keep (.of hW)) (hv.keep (.of hW)) (by omega))
          (Lib.hid fun W W' p hW hp => hp.keep (.of hW)) (Lib.hid fun W W' p hW hp => hp.keep (.of hW))
          (Lib.hid fun W p p' hW hp hp' => top_makes S (.node ll lk lv a) (.node d k v r) ik iv p p' ika iva ikc ivc W (hsS hS hW) hp hp' (g1.keep (.of hW)) (g2.keep (.of hW)) (by simp only [Tr.n]; omega))
theorem turnedLeft_any (S : Nat → Prop) (l r : Tre) (k v : List Vl) (lp rp ka va : Option Addr) (kc vc : Nat) (w : World) (hS : ∀ b, w.heap.size ≤ b → S b) (hl : TrAt S w l lp) (hr : TrAt S w r rp) (hk : RwS S w ka k) (hv : RwS S w va v) (hn : l.n + r.n ≤ 1073741823) (hh : 0 < r.h) :
    Makes 121 #[.pointer lp, .agg #[.slice ka k.length kc, .slice va v.length vc], .pointer rp] w (fun W p => TrAt S W (Tr.rotL l k v r) p) := by
  cases r with
  | nil => simp [Tr.h] at hh
  | node rl rk rv rr =>
    obtain ⟨b, lka, lkc, lva, lvc, llp, lrp, rfl, _, _, ⟨c0, c1, c2, c3, _, _⟩, h1, h2, h3, h4⟩ := hr
    simp only [Tr.n] at hn
    by_cases hc : rl.h ≤ rr.h
    · have e : Tr.rotL l k v (.node rl rk rv rr) = .node (.node l k v rl) rk rv rr := by simp [Tr.rotL, hc]
      rw [e]
      exact turnL_one b llp lrp lp ka va lka lva k.length kc v.length vc rk.length lkc rv.length lvc rl.h rr.h w (fun W p => TrAt S W (.node l k v rl) p) _ hc ⟨c0, c1, c2, c3⟩
        (Lib.hid fun W hW => height_any S rl llp W (h3.keep (.of hW))) (Lib.hid fun W hW => height_any S rr lrp W (h4.keep (.of hW)))
        (Lib.hid fun W hW => top_makes S l rl k v lp llp ka va kc vc W (hsS hS hW) (hl.keep (.of hW)) (h3.keep (.of hW)) (hk.keep (.of hW)) (hv.keep (.of hW)) (by omega))
        (Lib.hid fun W p hW hp => top_makes S (.node l k v rl) rr rk rv p lrp lka lva lkc lvc W (hsS hS hW) hp (h4.keep (.of hW)) (h1.keep (.of hW)) (h2.keep (.of hW)) (by simp only [Tr.n]; omega))
    · cases rl with
      | nil => simp [Tr.h] at hc
      | node a ik iv d =>
        have e : Tr.rotL l k v (.node (.node a ik iv d) rk rv rr) = .node (.node l k v a) ik iv (.node d rk rv rr) := by simp [Tr.rotL, hc]
        rw [e]
        have H3 := h3
        obtain ⟨c, ika, ikc, iva, ivc, ilp, irp, rfl, _, _, ⟨e0, e1, e2, e3, _, _⟩, g1, g2, g3, g4⟩ := h3
        simp only [Tr.n] at hn
        exact turnL_two b c lrp ilp irp lp ka va lka lva ika iva k.length kc v.length vc rk.length lkc rv.length lvc ik.length ikc iv.length ivc rr.h (Tr.h (.node a ik iv d)) w (fun W p => TrAt S W (.node l k v a) p) (fun W p => TrAt S W (.node d rk rv rr) p) _ (by omega) ⟨c0, c1, c2, c3⟩ ⟨e0, e1, e2, e3⟩
          (Lib.hid fun W hW => height_any S rr lrp W (h4.keep (.of hW))) (Lib.hid fun W hW => height_any S _ _ W (H3.keep (.of hW)))
          (Lib.hid fun W hW => top_makes S l a k v lp ilp ka va kc vc W (hsS hS hW) (hl.keep (.of hW)) (g3.keep (.of hW)) (hk.keep (.of hW)) (hv.keep (.of hW)) (by omega))
          (Lib.hid fun W hW => top_makes S d rr rk rv irp lrp lka lva lkc lvc W (hsS hS hW) (g4.keep (.of hW)) (h4.keep (.of hW)) (h1.keep (.of hW)) (h2.keep (.of hW)) (by omega))
          (Lib.hid fun W W' p hW hp => hp.keep (.of hW)) (Lib.hid fun W W' p hW hp => hp.keep (.of hW))
          (Lib.hid fun W p p' hW hp hp' => top_makes S (.node l k v a) (.node d rk rv rr) ik iv p p' ika iva ikc ivc W (hsS hS hW) hp hp' (g1.keep (.of hW)) (g2.keep (.of hW)) (by simp only [Tr.n]; omega))
set_option maxRecDepth 100000 in
set_option maxHeartbeats 3200000 in
theorem balanced_gen (x y m q kc vc : Nat) (lp rp ka va : Ptr) (w : World) (P : World → Ptr → Prop) (hx : x ≤ 1073741824) (hy : y ≤ 1073741824)
    (H1 : Hid (∀ W, w.grownBy W none → Calls Tryz.prog 119 #[.pointer lp] W fun e w' => e = .returned (.int .i64 x) ∧ W = w'))
    (H2 : Hid (∀ W, w.grownBy W none → Calls Tryz.prog 119 #[.pointer rp] W fun e w' => e = .returned (.int .i64 y) ∧ W = w'))
    (TR : Hid (x = y + 2 → ∀ W, w.grownBy W none → Makes 120 #[.pointer lp, .agg #[.slice ka m kc, .slice va q vc], .pointer rp] W P))
    (TL : Hid (y = x + 2 → ∀ W, w.grownBy W none → Makes 121 #[.pointer lp, .agg #[.slice ka m kc, .slice va q vc], .pointer rp] W P))
    (TT : Hid (x ≠ y + 2 → y ≠ x + 2 → ∀ W, w.grownBy W none → Makes 122 #[.pointer lp, .agg #[.slice ka m kc, .slice va q vc], .pointer rp] W P)) :
    Makes 102 #[.pointer lp, .agg #[.slice ka m kc, .slice va q vc], .pointer rp] w P := by
  have K0 := Lib.hid (World.grownBy_alloc w (.cells #[.slice ka m kc, .slice va q vc] 164) none)
  obtain ⟨x0, x1⟩ := Box2.new w (.slice ka m kc) (.slice va q vc) 164
  unfold Makes
  have hw : IntKind.i64.wrap ((x : Int) - y) = (x : Int) - y := by rw [IntKind.wrap_i64]; omega
  by_cases c1 : x = y + 2
  · have T := Lib.hid (fun W hW => Makes.calls (TR.out c1 W hW))
    have d1 : ((x : Int) - y == 2) = true := beq_iff_eq.2 (by omega)
    clear c1 TL TT TR
    go_enter Tryz.func102, Tryz.ntmps102
    go_wp2_with fail
    refine (H1.out _ K0.out).mono ?_
    rintro e w1 ⟨rfl, rfl⟩
    go_wp2_with fail
    refine (H2.out _ K0.out).mono ?_
    rintro e w1 ⟨rfl, rfl⟩
    go_wp2_with fail
    refine (T.out _ K0.out).mono ?_
    rintro e w2 ⟨⟨p, rfl, hp⟩, hg⟩
    have D := Lib.hid (And.intro hp (K0.out.trans hg))
    clear hp hg
    go_wp2_with fail
    go_ret
    exact ⟨⟨_, rfl, D.out.1⟩, D.out.2⟩
  · by_cases c2 : y = x + 2
    · have T := Lib.hid (fun W hW => Makes.calls (TL.out c2 W hW))
      have d1 : ((x : Int) - y == 2) = false := beq_eq_false_iff_ne.2 (by omega)
      have d2 : ((x : Int) - y == -2) = true := beq_iff_eq.2 (by omega)
      clear c1 c2 TL TT TR
      go_enter Tryz.func102, Tryz.ntmps102
      go_wp2_with fail
      refine (H1.out _ K0.out).mono ?_
      rintro e w1 ⟨rfl, rfl⟩
      go_wp2_with fail
      refine (H2.out _ K0.out).mono ?_
      rintro e w1 ⟨rfl, rfl⟩
      go_wp2_with fail
      refine (T.out _ K0.out).mono ?_
      rintro e w2 ⟨⟨p, rfl, hp⟩, hg⟩
      have D := Lib.hid (And.intro hp (K0.out.trans hg))
      clear hp hg
      go_wp2_with fail
      go_ret
      exact ⟨⟨_, rfl, D.out.1⟩, D.out.2⟩
    · have T := Lib.hid (fun W hW => Makes.calls (TT.out c1 c2 W hW))
      have d1 : ((x : Int) - y == 2) = false := beq_eq_false_iff_ne.2 (by omega)
      have d2 : ((x : Int) - y == -2) = false := beq_eq_false_iff_ne.2 (by omega)
      clear c1 c2 TL TT TR
      go_enter Tryz.func102, Tryz.ntmps102
      go_wp2_with fail
      refine (H1.out _ K0.out).mono ?_
      rintro e w1 ⟨rfl, rfl⟩
      go_wp2_with fail
      refine (H2.out _ K0.out).mono ?_
      rintro e w1 ⟨rfl, rfl⟩
      go_wp2_with fail
      refine (T.out _ K0.out).mono ?_
      rintro e w2 ⟨⟨p, rfl, hp⟩, hg⟩
      have D := Lib.hid (And.intro hp (K0.out.trans hg))
      clear hp hg
      go_wp2_with fail
      go_ret
      exact ⟨⟨_, rfl, D.out.1⟩, D.out.2⟩
theorem balanced_any (S : Nat → Prop) (l r : Tre) (k v : List Vl) (lp rp ka va : Option Addr) (kc vc : Nat) (w : World) (hS : ∀ b, w.heap.size ≤ b → S b) (hl : TrAt S w l lp) (hr : TrAt S w r rp) (hk : RwS S w ka k) (hv : RwS S w va v) (hn : l.n + r.n ≤ 1073741823) :
    Makes 102 #[.pointer lp, .agg #[.slice ka k.length kc, .slice va v.length vc], .pointer rp] w (fun W p => TrAt S W (Tr.bal l k v r) p) := by
  have a1 := Tr.h_le l
  have a2 := Tr.h_le r
  refine balanced_gen l.h r.h k.length v.length kc vc lp rp ka va w _ (by omega) (by omega) (Lib.hid fun W hW => height_any S l lp W (hl.keep (.of hW))) (Lib.hid fun W hW => height_any S r rp W (hr.keep (.of hW))) (Lib.hid fun hc W hW => ?_) (Lib.hid fun hc W hW => ?_) (Lib.hid fun hc hc' W hW => ?_)
  · have e : Tr.bal l k v r = Tr.rotR l k v r := by unfold Tr.bal; rw [if_pos hc]
    rw [e]
    exact turnedRight_any S l r k v lp rp ka va kc vc W (hsS hS hW) (hl.keep (.of hW)) (hr.keep (.of hW)) (hk.keep (.of hW)) (hv.keep (.of hW)) hn (by omega)
  · have e : Tr.bal l k v r = Tr.rotL l k v r := by unfold Tr.bal; rw [if_neg (by omega), if_pos hc]
    rw [e]
    exact turnedLeft_any S l r k v lp rp ka va kc vc W (hsS hS hW) (hl.keep (.of hW)) (hr.keep (.of hW)) (hk.keep (.of hW)) (hv.keep (.of hW)) hn (by omega)
  · have e : Tr.bal l k v r = .node l k v r := by unfold Tr.bal; rw [if_neg hc, if_neg hc']
    rw [e]
    exact top_makes S l r k v lp rp ka va kc vc W (hsS hS hW) (hl.keep (.of hW)) (hr.keep (.of hW)) (hk.keep (.of hW)) (hv.keep (.of hW)) (by omega)
end Go.Proofs.YtaggacffjbjchaaGreatDoor
