/- What schema's twice answers at any table. What the listed variables of layer 9 give: the handle, and schema's errors. What opens the arguments of layer 6's laws: tables, rows, a place with a value. -/
import Derived.Test.YtnfpomjcofhppaaGreatDoorZb08
import Derived.Test.YtnfpomjcofhppaaGreatDoorZb01
import Derived.Test.YtnfpomjcofhppaaGreatDoorZb06
import Derived.Test.YtnfpomjcofhppaaGreatDoorZb07
import Derived.ProofKit
import Derived.OpenShut
import Derived.Deep.Slices
import Derived.Deep.Fields
import Derived.ChangeSame
import Derived.Lib.SmallJoins
namespace Go.Proofs.YtnfpomjcofhppaaGreatDoor
open Go.RowKit

def Apart6 (ts : List Tb) (N : ByteArray) : Prop := ∀ i, i < ts.length → ((ts.getD i default).n.toList == N.toList) = false
def Once6 (l : List Cl) (k : Nat) : Prop := ∀ i, i < k → ∀ j, j < i → ((l.getD j default).n.toList == (l.getD i default).n.toList) = false
set_option maxRecDepth 100000 in
set_option maxHeartbeats 3200000 in
theorem twice_table (a ca : Option Addr) (cap ccap m : Nat) (ts : List Tb) (N : ByteArray) (K : Int) (w : World) (ht : TabsAt w.heap.size w a ts) (hw : WhyG w) (hd : ¬ Apart6 ts N) :
    Calls Tryz.prog 74 #[.slice a ts.length cap, .agg #[.string N, .slice ca m ccap, .int .i64 K]] w fun e w' => (∃ ty p, e = .returned (.iface ty p)) ∧ w.grownBy w' none := by
  have HT : Hid (∀ W, w.grownBy W none → Calls Tryz.prog 87 #[.slice a ts.length cap, .string N] W fun e w' => (∃ k : Nat, e = .returned (.int .i64 k)) ∧ W.grownBy w' none) := Lib.hid fun W hW => by
    refine (tableOf_any a cap ts N W ((ht.keep hW (by simp)).mono hW.size)).mono ?_
    rintro e w' ⟨⟨r, rfl, hr⟩, hg⟩
    rcases hr with ⟨rfl, h⟩ | ⟨k, rfl, _⟩
    · exact absurd h hd
    · exact ⟨⟨k, rfl⟩, hg⟩
  have HW := Lib.hid hw
  generalize ts.length = tn at *
  clear ht hd hw
  have K0 := Lib.hid (World.grownBy_alloc w (.cells #[.string N, .slice ca m ccap, .int .i64 K] 50) none)
  go_enter Tryz.func74, Tryz.ntmps74
  go_wp2_with fail
  refine (HT.out _ K0.out).mono ?_
  rintro e w1 ⟨⟨k, rfl⟩, hg⟩
  have K1 := Lib.hid (K0.out.trans hg)
  obtain ⟨ty, p, hE⟩ := (HW.out.grown K1.out).table
  have hk : (0 : Int) ≤ (k : Int) := by omega
  clear hg
  go_wp2_with fail
  go_ret
  exact ⟨⟨ty, p, rfl⟩, K1.out⟩
set_option maxRecDepth 100000 in
set_option maxHeartbeats 3200000 in
theorem twice_cols (a ca : Option Addr) (cap ccap : Nat) (ts : List Tb) (l : List Cl) (N : ByteArray) (K : Int) (w : World) (ht : TabsAt w.heap.size w a ts) (h : ColsAt w.heap.size w ca l) (hcap : l.length ≤ ccap) (hw : WhyG w) (hd : Apart6 ts N) :
    Calls Tryz.prog 74 #[.slice a ts.length cap, .agg #[.string N, .slice ca l.length ccap, .int .i64 K]] w fun e w' => (Once6 l l.length ∧ e = .returned .nilIface ∨ ¬ Once6 l l.length ∧ ∃ ty p, e = .returned (.iface ty p)) ∧ w.grownBy w' none := by
  have HT : Hid (∀ W, w.grownBy W none → Calls Tryz.prog 87 #[.slice a ts.length cap, .string N] W fun e w' => e = .returned (.int .i64 (-1)) ∧ W.grownBy w' none) := Lib.hid fun W hW => by
    refine (tableOf_any a cap ts N W ((ht.keep hW (by simp)).mono hW.size)).mono ?_
    rintro e w' ⟨⟨r, rfl, hr⟩, hg⟩
    rcases hr with ⟨rfl, _⟩ | ⟨k, rfl, hk, hm, _⟩
    · exact ⟨rfl, hg⟩
    · rw [hd k hk] at hm; cases hm
  have HC : Hid (∀ k, k < l.length → ∀ W, w.grownBy W none → Calls Tryz.prog 88 #[.slice ca k ccap, .string (l.getD k default).n] W fun e w' => ((∀ j, j < k → ((l.getD j default).n.toList == (l.getD k default).n.toList) = false) ∧ e = .returned (.int .i64 (-1)) ∨ ∃ j : Nat, (j < k ∧ ((l.getD j default).n.toList == (l.getD k default).n.toList) = true) ∧ e = .returned (.int .i64 j)) ∧ W.grownBy w' none) := Lib.hid fun k hk W hW => by
    have hl : (l.take k).length = k := by rw [List.length_take]; omega
    have hc := columnOf_any ca ccap (l.take k) (l.getD k default).n W ((((h.keep hW (by simp)).mono hW.size).pre (by omega)))
    rw [hl] at hc
    have he : ∀ j, j < k → (l.take k).getD j default = l.getD j default := fun j hj => by simp [List.getD, hj]
    refine hc.mono ?_
    rintro e w' ⟨⟨r, rfl, hr⟩, hg⟩
    rcases hr with ⟨rfl, hn⟩ | ⟨j, rfl, hj, hm, _⟩
    · exact ⟨.inl ⟨fun j hj => by rw [← he j hj]; exact hn j (by rw [hl]; exact hj), rfl⟩, hg⟩
    · rw [hl] at hj
      exact ⟨.inr ⟨j, ⟨hj, by rw [← he j hj]; exact hm⟩, rfl⟩, hg⟩
  have H := Lib.hid h
  have HB := Lib.hid (box3_new6 w (.string N) (.slice ca l.length ccap) (.int .i64 K) 50)
  have HW := Lib.hid hw
  have hlen := h.1
  obtain ⟨n, hn⟩ : ∃ n, n = l.length := ⟨_, rfl⟩
  have Hn := Lib.hid hn
  rw [← hn] at hlen HB hcap HC ⊢
  generalize ts.length = tn at *
  clear h hn ht hd hw
  have K0 := Lib.hid (World.grownBy_alloc w (.cells #[.string N, .slice ca n ccap, .int .i64 K] 50) none)
  go_enter Tryz.func74, Tryz.ntmps74
  go_wp2_with fail
  refine (HT.out _ K0.out).mono ?_
  rintro e w1 ⟨rfl, hg⟩
  have K1 := Lib.hid (K0.out.trans hg)
  obtain ⟨g0, g1, g2⟩ := HB.out
  have d1 := hg.cell g1 (by simp)
  have D1 := Lib.hid (fun (W : World) (hW : w1.grownBy W none) => (hg.trans hW).cell g1 (by simp))
  clear hg g0 g1 g2
  go_wp2_with fail
  clear d1
  go_loopw [16] (fun i wr => ∃ (k : Nat), i = .int .i64 k ∧ k ≤ n ∧ Hid (Once6 l k) ∧ Hid (w1.grownBy wr none)) (fun i _ => n - (intOf i).toNat)
  case atStart => exact ⟨0, rfl, by omega, Lib.hid (fun i hi => by omega), Lib.hid (grown_refl6 _ _)⟩
  case round =>
    obtain ⟨k, rfl, hk, E, KR⟩ := hrel
    by_cases hlt : k < n
    · obtain ⟨b, off, rfl, _, c0, c1, c2⟩ := (H.out.keep (K1.out.trans KR.out) (by simp)).at (i := k) (by rw [← Hn.out]; exact hlt)
      have HX := Lib.hid (HC.out k hlt)
      have Good : Hid ((∀ j, j < k → ((l.getD j default).n.toList == (l.getD k default).n.toList) = false) → Once6 l (k + 1)) := Lib.hid fun hb i hi => by
        by_cases e : i = k
        · rw [e]; exact hb
        · exact E.out i (by omega)
      have Bad : Hid (∀ j, j < k → ((l.getD j default).n.toList == (l.getD k default).n.toList) = true → ¬ Once6 l n) := Lib.hid fun j hj hb ho => by
        rw [ho k hlt j hj] at hb; cases hb
      obtain ⟨P, hP⟩ : ∃ P : Prop, P = ∀ j, j < k → ((l.getD j default).n.toList == (l.getD k default).n.toList) = false := ⟨_, rfl⟩
      rw [← hP] at HX Good
      obtain ⟨Q, hQ⟩ : ∃ Q : Nat → Prop, Q = fun j => j < k ∧ ((l.getD j default).n.toList == (l.getD k default).n.toList) = true := ⟨_, rfl⟩
      have Bad2 : Hid (∀ j, Q j → ¬ Once6 l n) := Lib.hid fun j hj => by rw [hQ] at hj; exact Bad.out j hj.1 hj.2
      have HX2 : Hid (∀ W, w.grownBy W none → Calls Tryz.prog 88 #[.slice (some ⟨b, off, none⟩) k ccap, .string (l.getD k default).n] W fun e w' => (P ∧ e = .returned (.int .i64 (-1)) ∨ ∃ j : Nat, Q j ∧ e = .returned (.int .i64 j)) ∧ W.grownBy w' none) := Lib.hid (by rw [hQ]; exact HX.out)
      have PQ : P → ∀ j, Q j → False := by
        rw [hP, hQ]
        intro h j hj
        rw [h j hj.1] at hj
        cases hj.2
      clear hP hQ HX Bad
      generalize l.getD k default = x at *
      obtain ⟨xn, xk, xb⟩ := x
      simp only at c0 c1 c2 HX2
      have d1 : ∀ o, (wr.alloc o).cell? ⟨w.heap.size, 1, none⟩ = some (.slice (some ⟨b, off, none⟩) n ccap) := fun o => D1.out _ (KR.out.trans (World.grownBy_alloc wr o none))
      have KA := Lib.hid (fun o => K1.out.trans (KR.out.trans (World.grownBy_alloc wr o none)))
      have KA1 := Lib.hid (fun o => KR.out.trans (World.grownBy_alloc wr o none))
      have j0 : (k : Int) ≤ ccap := by omega
      by_cases hp : P
      · have HX3 : Hid (∀ W, w.grownBy W none → Calls Tryz.prog 88 #[.slice (some ⟨b, off, none⟩) k ccap, .string xn] W fun e w' => e = .returned (.int .i64 (-1)) ∧ W.grownBy w' none) := Lib.hid (fun W hW => (HX2.out W hW).mono (fun e w' h => ⟨by
          rcases h.1 with ⟨_, h⟩ | ⟨j, hq, _⟩
          · exact h
          · exact (PQ hp j hq).elim, h.2⟩))
        have hgood := Lib.hid (Good.out hp)
        clear PQ HX2 hp
        go_wp2_with fail
        go_region_with (go_at_call 88; (with_reducible refine (HX3.out _ (by first | exact KA.out _ | exact grown_drew6 (KA.out _))).mono ?_); rintro e w3 ⟨rfl, hg3⟩; have K3 := Lib.hid hg3)
        all_goals
          go_wp2_with fail
          go_roundw
          case rel => exact ⟨k + 1, by go_num, by omega, hgood, Lib.hid ((grown_drew6 (KA1.out _)).trans K3.out)⟩
          case measure => simp [intOf]; omega
      · have HX3 : Hid (∀ W, w.grownBy W none → Calls Tryz.prog 88 #[.slice (some ⟨b, off, none⟩) k ccap, .string xn] W fun e w' => (∃ j : Nat, Q j ∧ e = .returned (.int .i64 j)) ∧ W.grownBy w' none) := Lib.hid (fun W hW => (HX2.out W hW).mono (fun e w' h => ⟨by
          rcases h.1 with ⟨h, _⟩ | h
          · exact (hp h).elim
          · exact h, h.2⟩))
        clear PQ HX2 hp
        go_wp2_with fail
        go_region_with (go_at_call 88; (with_reducible refine (HX3.out _ (by first | exact KA.out _ | exact grown_drew6 (KA.out _))).mono ?_); rintro e w3 ⟨⟨j, hq, rfl⟩, hg3⟩; have K3 := Lib.hid hg3)
        all_goals
          have hbad := Lib.hid (Bad2.out j hq)
          have K4 := Lib.hid ((grown_drew6 (KA.out _)).trans K3.out)
          obtain ⟨ty, p, hE⟩ := (HW.out.grown K4.out).twice
          have hj0 : (0 : Int) ≤ (j : Int) := by omega
          go_wp2_with fail
          go_ret
          exact ⟨.inr ⟨hbad.out, ty, p, rfl⟩, K4.out⟩
    · obtain rfl : k = n := by omega
      go_wp2_with fail
      go_ret
      exact ⟨.inl ⟨E.out, rfl⟩, K1.out.trans KR.out⟩
/-- twice at any table. -/
theorem twice_any (a ca : Option Addr) (cap ccap : Nat) (ts : List Tb) (l : List Cl) (N : ByteArray) (K : Int) (w : World) (ht : TabsAt w.heap.size w a ts) (h : ColsAt w.heap.size w ca l) (hcap : l.length ≤ ccap) (hw : WhyG w) :
    Calls Tryz.prog 74 #[.slice a ts.length cap, .agg #[.string N, .slice ca l.length ccap, .int .i64 K]] w fun e w' => ((Apart6 ts N ∧ Once6 l l.length) ∧ e = .returned .nilIface ∨ ¬ (Apart6 ts N ∧ Once6 l l.length) ∧ ∃ ty p, e = .returned (.iface ty p)) ∧ w.grownBy w' none := by
  by_cases hd : Apart6 ts N
  · refine (twice_cols a ca cap ccap ts l N K w ht h hcap hw hd).mono fun e w' ⟨h, g⟩ => ⟨?_, g⟩
    rcases h with ⟨h1, h2⟩ | ⟨h1, h2⟩
    · exact .inl ⟨⟨hd, h1⟩, h2⟩
    · exact .inr ⟨fun h => h1 h.2, h2⟩
  · exact (twice_table a ca cap ccap l.length ts N K w ht hw hd).mono fun e w' ⟨h, g⟩ => ⟨.inr ⟨fun h => hd h.1, h⟩, g⟩
end Go.Proofs.YtnfpomjcofhppaaGreatDoor
namespace Go.Proofs.YtnfpomjcofhppaaGreatDoor
open Go.ChangeShapes Go.WideShapes Go.ChangeAt Go.RowKit Go.Joins Go.Deep

theorem et_named : Tryz.prog.globalNamed "errors.errorType" = some 0 := by kernel_rfl
theorem rt_named : (Tryz.prog.cutTypes.find? (·.1 == "internal/reflectlite.rtype")).map (·.2) = some 151 := by kernel_rfl
theorem types_size : Tryz.prog.types.size = 247 := by kernel_rfl
theorem one_error : ((List.range 247).filter fun t => Tryz.prog.rowNamed t [101, 114, 114, 111, 114]) = [90] := by kernel_rfl
/-- The variable errors.errorType, out of the condition. -/
theorem handle_of {l : List (String × DataW Unit)} {W : World} (h : handlesMet Tryz.prog l W) (hm : ("errors.errorType", Rows.laid_errors_errorType) ∈ l) : ErrT W.heap.size W := by
  obtain ⟨name, u, ty, e1, e2, e3, e4, e5⟩ := h _ hm
  have en : name = [101, 114, 114, 111, 114] := (Option.some.inj e1).symm
  subst en
  obtain rfl := Option.some.inj (rt_named.symm.trans e2)
  have hm : ty ∈ (List.range 247).filter fun t => Tryz.prog.rowNamed t [101, 114, 114, 111, 114] := List.mem_filter.2 ⟨List.mem_range.2 (by rw [← types_size]; exact e3), e4⟩
  rw [one_error] at hm
  obtain rfl := List.mem_singleton.1 hm
  have hh : typeHandle Tryz.prog 90 = .pointer (some ⟨10, 90, none⟩) := by kernel_rfl
  rw [hh] at e5
  have hc : W.cell? ⟨0, 0, none⟩ = some (.iface 151 (.agg #[.pointer (some ⟨10, 90, none⟩)])) := by simpa using World.var?_cell et_named e5 0
  exact ⟨block_lt_of_cell hc, hc⟩
theorem star_err : "*" ++ "errors.errorString" = "*errors.errorString" := by decide
theorem row_err (u : TypeId) (h : Tryz.prog.typeName? 3 u = some "*errors.errorString") : u = 214 :=
  typeName_ptr_named (nm := "errors.errorString") (by rw [star_err]; kernel_rfl) (by kernel_rfl) (by decide) u (by rw [star_err]; exact h)
theorem sentinel_of {n : String} {text : List UInt8} {r : List (String × DataW Unit)} {W : World} {g : Nat} (h : laidMet Tryz.prog ((n, .iface "*errors.errorString" (.ptr (.agg [.lit (.string text)]))) :: r) W) (hg : Tryz.prog.globalNamed n = some g) (ht : (Tryz.prog.globals[g]?).map (·.type) = some 90) :
    g < W.heap.size ∧ ∃ t p, W.cell? ⟨g, 0, none⟩ = some (.iface t p) := by
  obtain ⟨a, s, hv, _⟩ := laid_sentinel h hg ht Tryz.underlying90 row_err Tryz.underlying214 Tryz.underlying235 rfl rfl Tryz.underlying9 (by kernel_rfl) (by kernel_rfl)
  have hc : W.cell? ⟨g, 0, none⟩ = some (.iface 214 (.pointer (some a))) := by simpa using World.var?_cell hg hv 0
  exact ⟨block_lt_of_cell hc, _, _, hc⟩

def tail8s : List (String × DataW Unit) := [("stillroom/schema.errMany", Rows.laid_stillroom_schema_errMany), ("stillroom/schema.errWidth", Rows.laid_stillroom_schema_errWidth), ("stillroom/schema.errName", Rows.laid_stillroom_schema_errName), ("stillroom/schema.errKind", Rows.laid_stillroom_schema_errKind), ("stillroom/schema.errKeys", Rows.laid_stillroom_schema_errKeys), ("stillroom/schema.errNull", Rows.laid_stillroom_schema_errNull), ("stillroom/schema.errTable", Rows.laid_stillroom_schema_errTable), ("stillroom/schema.errTwice", Rows.laid_stillroom_schema_errTwice)]
theorem split9s {W : World} (h : laidMetH Tryz.prog laid9s W) : laidMet Tryz.prog tail8s W ∧ handlesMet Tryz.prog [("errors.errorType", Rows.laid_errors_errorType)] W := h
theorem errT_of9s {W : World} (h : laidMetH Tryz.prog laid9s W) : ErrT W.heap.size W := handle_of (split9s h).2 (by simp)
theorem whyG_of9s {W : World} (h : laidMetH Tryz.prog laid9s W) : WhyG W := by
  have h1 := (split9s h).1
  have h2 := h1.tail
  have h3 := h2.tail
  have h4 := h3.tail
  have h5 := h4.tail
  have h6 := h5.tail
  have h7 := h6.tail
  have h8 := h7.tail
  exact ⟨(sentinel_of h1 (by kernel_rfl) (by kernel_rfl)).2, (sentinel_of h2 (by kernel_rfl) (by kernel_rfl)).2, (sentinel_of h3 (by kernel_rfl) (by kernel_rfl)).2, (sentinel_of h4 (by kernel_rfl) (by kernel_rfl)).2, (sentinel_of h5 (by kernel_rfl) (by kernel_rfl)).2, (sentinel_of h6 (by kernel_rfl) (by kernel_rfl)).2, (sentinel_of h7 (by kernel_rfl) (by kernel_rfl)).2, (sentinel_of h8 (by kernel_rfl) (by kernel_rfl)).2⟩
end Go.Proofs.YtnfpomjcofhppaaGreatDoor
namespace Go.Proofs.YtnfpomjcofhppaaGreatDoor
open Go.ChangeShapes Go.WideShapes Go.ChangeAt Go.RowKit Go.Joins Go.Deep

theorem addS_plain (b o k : Nat) : (⟨b, o, none⟩ : Addr).add k = ⟨b, o + k, none⟩ := by
  unfold Addr.add
  by_cases h : k = 0
  · subst h; simp
  · simp [h]
theorem blockS_of_cell {w : World} {b o : Nat} {v : Value} (h : w.cell? ⟨b, o, none⟩ = some v) : b < w.heap.size := by
  rcases Nat.lt_or_ge b w.heap.size with h' | h'
  · exact h'
  · simp [World.cell?, Array.getElem?_eq_none h'] at h
theorem cellS_plain {W : World} {a : Addr} {v : Value} (h : W.cell? (a.add 0) = some v) : a = ⟨a.block, a.off, none⟩ := by
  obtain ⟨b, off, spot⟩ := a
  have : spot = none := by simpa [Addr.add] using World.cell?_spot h
  subst this
  rfl
section
variable {H : Type} {enc : TypeId × Value → H}

set_option maxRecDepth 100000 in
theorem valueS_cells {W : World} {base n : Nat} {spare : Nat → Bool} {held : Bool} {cs : List Value} {y : DataW H × List MemPlace} (ht : DataW.trod enc Tryz.prog W base spare held n 74 cs = some y) (hcl : cs.length = 3) :
    ∃ x : Vv, cs = [.int .i64 x.k, .int .i64 x.n, .string x.s] ∧ x.s.size ≤ maxLen := by
  obtain ⟨c0, c1, c2, rfl⟩ : ∃ c0 c1 c2, cs = [c0, c1, c2] := by
    match cs, hcl with
    | [c0, c1, c2], _ => exact ⟨c0, c1, c2, rfl⟩
  obtain ⟨y0, y1, y2, m, _, _, h0, h1, h2⟩ := trod_struct3 Tryz.underlying74 ht
  have k0 : Tryz.prog.cellsOf 72 = 1 := by kernel_rfl
  have k1 : Tryz.prog.cellsOf 3 = 1 := by kernel_rfl
  have k2 : Tryz.prog.cellsOf 9 = 1 := by kernel_rfl
  simp only [k0, k1, k2, List.drop_zero, List.drop_succ_cons, List.take_succ_cons, List.take_zero] at h0 h1 h2
  obtain ⟨k, e0, _, _⟩ := DataW.trod_int Tryz.underlying72 h0
  obtain ⟨n, e1, _, wn⟩ := DataW.trod_int Tryz.underlying3 h1
  obtain ⟨s, e2, _, hs⟩ := DataW.trod_string Tryz.underlying9 h2
  simp only [List.cons.injEq, and_true] at e0 e1 e2
  subst e0 e1 e2
  exact ⟨⟨k, n, s⟩, rfl, hs⟩
set_option maxRecDepth 100000 in
theorem colS_cells {W : World} {base n : Nat} {spare : Nat → Bool} {held : Bool} {cs : List Value} {y : DataW H × List MemPlace} (ht : DataW.trod enc Tryz.prog W base spare held n 114 cs = some y) (hcl : cs.length = 3) :
    ∃ x : Cl, cs = [.string x.n, .int .i64 x.k, .bool x.b] ∧ x.n.size ≤ maxLen := by
  obtain ⟨c0, c1, c2, rfl⟩ : ∃ c0 c1 c2, cs = [c0, c1, c2] := by
    match cs, hcl with
    | [c0, c1, c2], _ => exact ⟨c0, c1, c2, rfl⟩
  obtain ⟨y0, y1, y2, m, _, _, h0, h1, h2⟩ := trod_struct3 Tryz.underlying114 ht
  have k0 : Tryz.prog.cellsOf 72 = 1 := by kernel_rfl
  have k1 : Tryz.prog.cellsOf 4 = 1 := by kernel_rfl
  have k2 : Tryz.prog.cellsOf 9 = 1 := by kernel_rfl
  simp only [k0, k1, k2, List.drop_zero, List.drop_succ_cons, List.take_succ_cons, List.take_zero] at h0 h1 h2
  obtain ⟨s, e0, _, hs⟩ := DataW.trod_string Tryz.underlying9 h0
  obtain ⟨k, e1, _, _⟩ := DataW.trod_int Tryz.underlying72 h1
  obtain ⟨b, e2, _⟩ := DataW.trod_bool Tryz.underlying4 h2
  simp only [List.cons.injEq, and_true] at e0 e1 e2
  subst e0 e1 e2
  exact ⟨⟨s, k, b⟩, rfl, hs⟩
theorem cellsS_value : Tryz.prog.cellsOf 74 = 3 := by kernel_rfl
theorem cellsS_col : Tryz.prog.cellsOf 114 = 3 := by kernel_rfl
set_option maxRecDepth 100000 in
theorem rowS_cells {W : World} {fuel : Nat} {cs : List Value} {y : DataW H × List MemPlace} (hf : DataW.trod enc Tryz.prog W 0 (fun _ => true) true fuel 55 cs = some y) :
    ∃ (a : Option Addr) (cap : Nat) (l : List Vv), cs = [.slice a l.length cap] ∧ VvAt W.heap.size W a l ∧ l.length ≤ cap := by
  rcases open_slice Tryz.underlying55 hf with ⟨hcs, _⟩ | ⟨x, len, cap', m, n, D, Pl, hcs, _, hl, hm, hmm, _, hi⟩
  · exact ⟨none, 0, [], hcs, ⟨by simp, .inl rfl⟩, Nat.le_refl _⟩
  · simp only [if_true] at hmm
    subst hmm
    have hx : ∀ i, i < len → ∃ x' : Vv, W.cell? ((x.add (i * Tryz.prog.cellsOf 74)).add 0) = some (.int .i64 x'.k) ∧ W.cell? ((x.add (i * Tryz.prog.cellsOf 74)).add 1) = some (.int .i64 x'.n) ∧ W.cell? ((x.add (i * Tryz.prog.cellsOf 74)).add 2) = some (.string x'.s) := fun i hilt => by
      obtain ⟨cs', hc, ht⟩ := hi i (by omega)
      obtain ⟨_, hcl, hat⟩ := World.cells?_some hc
      obtain ⟨x', e, _⟩ := valueS_cells ht (hcl.trans cellsS_value)
      subst e
      exact ⟨x', hat 0 (by rw [cellsS_value]; decide), hat 1 (by rw [cellsS_value]; decide), hat 2 (by rw [cellsS_value]; decide)⟩
    obtain ⟨f, hfun⟩ := choose_lt hx
    rw [cellsS_value] at hfun
    have hlen : ((List.range len).map f).length = len := by simp
    have hget : ∀ i, i < len → ((List.range len).map f).getD i default = f i := fun i hilt => by simp [List.getD, hilt]
    refine ⟨some x, m, (List.range len).map f, by rw [hlen]; exact hcs, ⟨by rw [hlen]; unfold maxLen at hm; omega, ?_⟩, by rw [hlen]; exact hl⟩
    by_cases h0 : len = 0
    · left; subst h0; rfl
    · right
      have hp : x = ⟨x.block, x.off, none⟩ := cellS_plain (W := W) (v := .int .i64 (f 0).k) (by have := (hfun 0 (by omega)).1; simpa [Addr.add] using this)
      have hc0 := (hfun 0 (by omega)).1
      rw [hp] at hc0
      refine ⟨x.block, x.off, by rw [← hp], blockS_of_cell hc0, fun i hilt => ?_⟩
      rw [hlen] at hilt
      rw [hget i hilt]
      have := hfun i hilt
      rw [hp] at this
      simpa only [addS_plain, Nat.add_zero] using this
set_option maxRecDepth 100000 in
theorem colsS_cells {W : World} {fuel : Nat} {cs : List Value} {y : DataW H × List MemPlace} (hf : DataW.trod enc Tryz.prog W 0 (fun _ => true) true fuel 48 cs = some y) :
    ∃ (a : Option Addr) (cap : Nat) (l : List Cl), cs = [.slice a l.length cap] ∧ ColsAt W.heap.size W a l ∧ l.length ≤ cap ∧ ∀ i, i < l.length → (l.getD i default).n.size ≤ 9223372036854775807 := by
  rcases open_slice Tryz.underlying48 hf with ⟨hcs, _⟩ | ⟨x, len, cap', m, n, D, Pl, hcs, _, hl, hm, hmm, _, hi⟩
  · exact ⟨none, 0, [], hcs, ⟨by simp, .inl rfl⟩, Nat.le_refl _, fun i hi => by simp at hi⟩
  · simp only [if_true] at hmm
    subst hmm
    have hx : ∀ i, i < len → ∃ x' : Cl, x'.n.size ≤ maxLen ∧ W.cell? ((x.add (i * Tryz.prog.cellsOf 114)).add 0) = some (.string x'.n) ∧ W.cell? ((x.add (i * Tryz.prog.cellsOf 114)).add 1) = some (.int .i64 x'.k) ∧ W.cell? ((x.add (i * Tryz.prog.cellsOf 114)).add 2) = some (.bool x'.b) := fun i hilt => by
      obtain ⟨cs', hc, ht⟩ := hi i (by omega)
      obtain ⟨_, hcl, hat⟩ := World.cells?_some hc
      obtain ⟨x', e, hs⟩ := colS_cells ht (hcl.trans cellsS_col)
      subst e
      exact ⟨x', hs, hat 0 (by rw [cellsS_col]; decide), hat 1 (by rw [cellsS_col]; decide), hat 2 (by rw [cellsS_col]; decide)⟩
    obtain ⟨f, hfun⟩ := choose_lt hx
    rw [cellsS_col] at hfun
    have hlen : ((List.range len).map f).length = len := by simp
    have hget : ∀ i, i < len → ((List.range len).map f).getD i default = f i := fun i hilt => by simp [List.getD, hilt]
    refine ⟨some x, m, (List.range len).map f, by rw [hlen]; exact hcs, ⟨by rw [hlen]; unfold maxLen at hm; omega, ?_⟩, by rw [hlen]; exact hl, fun i hi => ?_⟩
    · by_cases h0 : len = 0
      · left; subst h0; rfl
      · right
        have hp : x = ⟨x.block, x.off, none⟩ := cellS_plain (W := W) (v := .string (f 0).n) (by have := (hfun 0 (by omega)).2.1; simpa [Addr.add] using this)
        have hc0 := (hfun 0 (by omega)).2.1
        rw [hp] at hc0
        refine ⟨x.block, x.off, by rw [← hp], blockS_of_cell hc0, fun i hilt => ?_⟩
        rw [hlen] at hilt
        rw [hget i hilt]
        have := (hfun i hilt).2
        rw [hp] at this
        simpa only [addS_plain, Nat.add_zero] using this
    · rw [hlen] at hi
      rw [hget i hi]
      have := (hfun i hi).1
      unfold maxLen at this
      omega
set_option maxRecDepth 100000 in
theorem open_row6 {W : World} {b0 : Nat} {v : Value} {d : DataW H} {p : List MemPlace} (hv : Value.okWide Tryz.prog W .any b0 55 v) (h : DataW.Trod enc Tryz.prog W 0 (fun _ => true) true 55 v d p) :
    ∃ (a : Option Addr) (cap : Nat) (l : List Vv), v = .slice a l.length cap ∧ VvAt W.heap.size W a l ∧ l.length ≤ cap := by
  obtain ⟨a, len, cap, rfl⟩ := okWide_slice Tryz.underlying55 hv
  obtain ⟨fuel, hf⟩ := h
  obtain ⟨a', cap', l, e, hr⟩ := rowS_cells hf
  simp only [Value.cells, List.cons.injEq, and_true] at e
  exact ⟨a', cap', l, e, hr⟩
set_option maxRecDepth 100000 in
theorem open_table6 {W : World} {b0 : Nat} {v : Value} {d : DataW H} {p : List MemPlace} (hv : Value.okWide Tryz.prog W .any b0 50 v) (h : DataW.Trod enc Tryz.prog W 0 (fun _ => true) true 50 v d p) :
    ∃ (N : ByteArray) (a : Option Addr) (cap : Nat) (l : List Cl) (K : Int), v = .agg #[.string N, .slice a l.length cap, .int .i64 K] ∧ N.size ≤ 9223372036854775807 ∧ ColsAt W.heap.size W a l ∧ l.length ≤ cap ∧ ∀ i, i < l.length → (l.getD i default).n.size ≤ 9223372036854775807 := by
  obtain ⟨c0, c1, c2, y0, y1, y2, m, rfl, rfl, rfl, hy0, hy1, hy2⟩ := open_agg3 Tryz.underlying50 (by kernel_rfl) (by kernel_rfl) hv h
  obtain ⟨s, e0, _, hs⟩ := DataW.trod_string Tryz.underlying9 hy0
  obtain ⟨a, cap, l, e1, hc⟩ := colsS_cells hy1
  obtain ⟨n, e2, _, wn⟩ := DataW.trod_int Tryz.underlying3 hy2
  simp only [List.cons.injEq, and_true] at e0 e1 e2
  subst e0 e1 e2
  exact ⟨s, a, cap, l, n, rfl, by unfold maxLen at hs; omega, hc⟩
end
end Go.Proofs.YtnfpomjcofhppaaGreatDoor
