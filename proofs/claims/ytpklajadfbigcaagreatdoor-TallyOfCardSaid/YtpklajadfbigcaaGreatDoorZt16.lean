import Derived.Test.YtpklajadfbigcaaGreatDoorZt14
import Derived.Test.YtpklajadfbigcaaGreatDoorRows
import Derived.ProofKit
import Derived.OpenShut
import Derived.Deep.Slices
import Derived.Deep.Fields
import Derived.ChangeSame
import Derived.Lib.SmallJoins
import Derived.LaidMore
import Derived.LaidHandle
import Derived.Stop.Joined
import Derived.Lib.LaidTab
import Derived.Stop.LaidErr
import Derived.MakeChecks
import Derived.Test.YtpklajadfbigcaaGreatDoorZt13
import Derived.Test.YtpklajadfbigcaaGreatDoorZt15
import Derived.BigQuiet
import Derived.Deep.RegionWith
import Derived.Laws.EntriesVeiled
set_option linter.unusedSimpArgs false
set_option linter.unusedVariables false
namespace Go.Proofs.YtpklajadfbigcaaGreatDoor
open Go.RowKit

end Go.Proofs.YtpklajadfbigcaaGreatDoor
namespace Go.Proofs.YtpklajadfbigcaaGreatDoor
open Go.ChangeShapes Go.WideShapes Go.ChangeAt Go.RowKit Go.Joins Go.Deep

theorem heap_ltL {w : World} {b : Nat} {o : Obj} (h : w.heap[b]? = some o) : b < w.heap.size := by
  rcases Nat.lt_or_ge b w.heap.size with h1 | h1
  · exact h1
  · rw [Array.getElem?_eq_none h1] at h; cases h
theorem own : ownKnob Tryz.prog.godebug = none := by kernel_rfl
theorem laidOut : laidOutB Tryz.prog = true := by kernel_rfl
theorem star_err : "*" ++ "errors.errorString" = "*errors.errorString" := by decide
set_option maxRecDepth 100000 in
theorem row_err (u : TypeId) (h : Tryz.prog.typeName? 3 u = some "*errors.errorString") : u = 184 :=
  typeName_ptr_named (nm := "errors.errorString") (by rw [star_err]; kernel_rfl) (by kernel_rfl) (by decide) u (by rw [star_err]; exact h)
theorem laid_sentinelL {P : Program} {n nm : String} {text : List UInt8} {r : List (String × DataW Unit)} {W : World} {g : Nat} {ti tp te ts : TypeId} {ms : Array (String × TypeId)} {f : Field}
    (h : laidMet P ((n, .iface nm (.ptr (.agg [.lit (.string text)]))) :: r) W)
    (hg : P.globalNamed n = some g) (ht : (P.globals[g]?).map (·.type) = some ti) (hi : P.underlying ti = some (.interface ms)) (hrow : ∀ u, P.typeName? 3 u = some nm → u = tp)
    (hp : P.underlying tp = some (.pointer te)) (he : P.underlying te = some (.struct #[f])) (hft : f.type = ts) (hfo : f.offset = 0) (hs : P.underlying ts = some .string) (hc : P.cellsOf te = 1) (hcs : P.cellsOf ts = 1) :
    ∃ (a : Addr) (s : ByteArray) (c : Array Value) (t : TypeId), W.cell? ⟨g, 0, none⟩ = some (.iface tp (.pointer (some a))) ∧ W.cell? a = some (.string s) ∧ s.data.toList = text ∧ W.heap[a.block]? = some (.cells c t (0, 0)) := by
  obtain ⟨ps, ⟨g0, t0, cs0, f0, p0, q0, hg0, ht0, hv0, hd0, _, e0⟩, _, hrows⟩ := h
  obtain rfl := Option.some.inj (hg.symm.trans hg0)
  obtain rfl := Option.some.inj (ht.symm.trans ht0)
  subst e0
  obtain ⟨l0⟩ := cs0
  have ok0 : ∀ u v, l0 = [.iface u v] → Value.okWide P W .any 0 u v := fun u v e => by
    subst e
    exact (hrows g 0 (by simp [MemPlace.row])).2 u v (by simpa using World.var?_cell hg0 hv0 0)
  obtain ⟨a0, s0, rfl, hc0, hs0, hz0, rfl⟩ := errorString_of_trod hi hrow hp he hft hfo hs hc hcs hd0 ok0
  obtain ⟨c0, t0, hb0⟩ := (hrows a0.block a0.off (by simp [MemPlace.row])).1
  exact ⟨a0, s0, c0, t0, by simpa using World.var?_cell hg0 hv0 0, hc0, hs0, hb0⟩
theorem senAt_of {n : String} {text : List UInt8} {r : List (String × DataW Unit)} {W : World} {g : Nat} (h : laidMet Tryz.prog ((n, .iface "*errors.errorString" (.ptr (.agg [.lit (.string text)]))) :: r) W) (hg : Tryz.prog.globalNamed n = some g) (ht : (Tryz.prog.globals[g]?).map (·.type) = some 98) :
    ∃ a, SenAt W.heap.size g a text W := by
  obtain ⟨a, s, c, t, hv, hc, hs, hb⟩ := laid_sentinelL h hg ht Tryz.underlying98 row_err Tryz.underlying184 Tryz.underlying206 rfl rfl Tryz.underlying9 (by kernel_rfl) (by kernel_rfl)
  exact ⟨a, block_lt_of_cell hv, heap_ltL hb, hv, ⟨s, hc, hs⟩, ⟨c, t, hb⟩⟩
theorem below_grownL {w w' : World} (h : w.grownBy w' none) : Below w.heap.size w w' := ⟨h.os, h.tape, h.output, h.size, fun i hi => h.block i hi (by simp)⟩
end Go.Proofs.YtpklajadfbigcaaGreatDoor
namespace Go.Proofs.YtpklajadfbigcaaGreatDoor
open Go.RowKit

theorem TabsAt.pre {B : Nat} {w : World} {a : Option Addr} {l : List Tb} (h : TabsAt B w a l) {k : Nat} (hk : k ≤ l.length) : TabsAt B w a (l.take k) := by
  refine ⟨by rw [List.length_take]; have := h.1; omega, fun t ht => h.2.1 t (List.mem_of_mem_take ht), ?_⟩
  rcases h.2.2 with h0 | ⟨b, off, e, hlt, hc⟩
  · exact .inl (by rw [h0]; simp)
  · refine .inr ⟨b, off, e, hlt, fun i hi => ?_⟩
    rw [List.length_take] at hi
    have e : (l.take k).getD i default = l.getD i default := by simp [List.getD, show i < k by omega]
    rw [e]
    exact hc i (by omega)
theorem tb_mem {l : List Tb} {i : Nat} (hi : i < l.length) : l.getD i default ∈ l := by simp [List.getD, hi]
end Go.Proofs.YtpklajadfbigcaaGreatDoor
namespace Go.Proofs.YtpklajadfbigcaaGreatDoor
open Go.RowKit

theorem grown_drew6 {w w' : World} {row : Option Nat} (h : w.grownBy w' row) : w.grownBy w'.drew row := ⟨h.os, h.tape, h.output, h.size, h.block⟩
theorem ColsAt.pre {B : Nat} {w : World} {a : Option Addr} {l : List Cl} (h : ColsAt B w a l) {k : Nat} (hk : k ≤ l.length) : ColsAt B w a (l.take k) := by
  refine ⟨by rw [List.length_take]; have := h.1; omega, ?_⟩
  rcases h.2 with h0 | ⟨b, off, e, hlt, hc⟩
  · exact .inl (by rw [h0]; simp)
  · refine .inr ⟨b, off, e, hlt, fun i hi => ?_⟩
    rw [List.length_take] at hi
    have e : (l.take k).getD i default = l.getD i default := by simp [List.getD, show i < k by omega]
    rw [e]
    exact hc i (by omega)
end Go.Proofs.YtpklajadfbigcaaGreatDoor
namespace Go.Proofs.YtpklajadfbigcaaGreatDoor
open Go.RowKit

def Apart6 (ts : List Tb) (N : ByteArray) : Prop := ∀ i, i < ts.length → ((ts.getD i default).n.toList == N.toList) = false
def Once6 (l : List Cl) (k : Nat) : Prop := ∀ i, i < k → ∀ j, j < i → ((l.getD j default).n.toList == (l.getD i default).n.toList) = false
end Go.Proofs.YtpklajadfbigcaaGreatDoor
namespace Go.Proofs.YtpklajadfbigcaaGreatDoor
open Go.RowKit

def Flaw6 (F M T : Nat → Prop) (n k : Nat) (y : Int) : Prop := k < n ∧ (∀ i, i < k → F i ∧ M i ∧ T i) ∧ (¬ F k ∧ y = 3 ∨ F k ∧ ¬ M k ∧ y = 2 ∨ F k ∧ M k ∧ ¬ T k ∧ y = 23)
end Go.Proofs.YtpklajadfbigcaaGreatDoor
namespace Go.Proofs.YtpklajadfbigcaaGreatDoor
open Go.RowKit

def FullG (l : List Tb) (i : Nat) : Prop := i < 6 ∧ 1 ≤ (l.getD i default).l.length ∧ (l.getD i default).l.length ≤ 8
def MalG (l : List Tb) (i : Nat) : Prop := nameB (l.getD i default).n = true ∧ 1 ≤ (l.getD i default).k ∧ (l.getD i default).k ≤ (l.getD i default).l.length ∧ ∀ j, j < (l.getD i default).l.length → colGood (l.getD i default).k j ((l.getD i default).l.getD j default)
def TwcG (l : List Tb) (i : Nat) : Prop := Apart6 (l.take i) (l.getD i default).n ∧ Once6 (l.getD i default).l (l.getD i default).l.length
def RightG (l : List Tb) : Prop := ∀ i, i < l.length → FullG l i ∧ MalG l i ∧ TwcG l i
end Go.Proofs.YtpklajadfbigcaaGreatDoor
namespace Go.Proofs.YtpklajadfbigcaaGreatDoor
open Go.RowKit

def Verd6 (F M T : Prop) (c : Int) : Prop := F ∧ M ∧ T ∧ c = 0 ∨ ¬ F ∧ c = 3 ∨ F ∧ ¬ M ∧ c = 2 ∨ F ∧ M ∧ ¬ T ∧ c = 23
set_option maxRecDepth 100000 in
set_option maxHeartbeats 6400000 in
theorem refWrong_all (a ca : Option Addr) (cap ccap : Nat) (ts : List Tb) (l : List Cl) (N : ByteArray) (K : Int) (w : World) (ht : TabsAt w.heap.size w a ts) (hts : ts.length ≤ cap) (h : ColsAt w.heap.size w ca l) (hcap : l.length ≤ ccap) (hN : N.size ≤ 9223372036854775807) (hn : ∀ i, i < l.length → (l.getD i default).n.size ≤ 9223372036854775807) :
    Calls Tryz.prog 41 #[.slice a ts.length cap, .agg #[.string N, .slice ca l.length ccap, .int .i64 K]] w fun e w' => (∃ c, Verd6 (ts.length < 6 ∧ 1 ≤ l.length ∧ l.length ≤ 8) (nameB N = true ∧ 1 ≤ K ∧ K ≤ l.length ∧ ∀ i, i < l.length → colGood K i (l.getD i default)) (Apart6 ts N ∧ Once6 l l.length) c ∧ e = .returned (.int .i64 c)) ∧ w.grownBy w' none := by
  have HN := Lib.hid (fun W => refName_any N W hN)
  have HT := Lib.hid ht
  have htl := ht.1
  obtain ⟨tn, htn⟩ : ∃ tn, tn = ts.length := ⟨_, rfl⟩
  have Htn := Lib.hid htn
  rw [← htn] at hts htl ⊢
  clear htn ht
  have HNc := Lib.hid (fun k hk W => refName_any (l.getD k default).n W (hn k hk))
  have H := Lib.hid h
  have HB := Lib.hid (box3_new6 w (.string N) (.slice ca l.length ccap) (.int .i64 K) 24)
  have hlen := h.1
  obtain ⟨n, hn'⟩ : ∃ n, n = l.length := ⟨_, rfl⟩
  have Hn := Lib.hid hn'
  rw [← hn'] at hlen HB hcap HNc ⊢
  clear h hn' hn
  obtain ⟨M, hM⟩ : ∃ M : Prop, M = (nameB N = true ∧ 1 ≤ K ∧ K ≤ n ∧ ∀ i, i < n → colGood K i (l.getD i default)) := ⟨_, rfl⟩
  obtain ⟨T, hT⟩ : ∃ T : Prop, T = (Apart6 ts N ∧ Once6 l n) := ⟨_, rfl⟩
  rw [← hM, ← hT]
  obtain ⟨V, hV⟩ : ∃ V : Int → Prop, V = Verd6 (tn < 6 ∧ 1 ≤ n ∧ n ≤ 8) M T := ⟨_, rfl⟩
  rw [← hV]
  have V3 : Hid (¬ (tn < 6 ∧ 1 ≤ n ∧ n ≤ 8) → V 3) := Lib.hid fun h => by rw [hV]; exact .inr (.inl ⟨h, rfl⟩)
  have V2 : Hid (tn < 6 ∧ 1 ≤ n ∧ n ≤ 8 → ¬ M → V 2) := Lib.hid fun h1 h2 => by rw [hV]; exact .inr (.inr (.inl ⟨h1, h2, rfl⟩))
  have V23 : Hid (tn < 6 ∧ 1 ≤ n ∧ n ≤ 8 → M → ¬ T → V 23) := Lib.hid fun h1 h2 h3 => by rw [hV]; exact .inr (.inr (.inr ⟨h1, h2, h3, rfl⟩))
  have V0 : Hid (tn < 6 ∧ 1 ≤ n ∧ n ≤ 8 → M → T → V 0) := Lib.hid fun h1 h2 h3 => by rw [hV]; exact .inl ⟨h1, h2, h3, rfl⟩
  have HM := Lib.hid hM
  have HTT := Lib.hid hT
  clear hM hT hV
  have K0 := Lib.hid (World.grownBy_alloc w (.cells #[.string N, .slice ca n ccap, .int .i64 K] 24) none)
  have D0 := Lib.hid (fun (W : World) (hW : (w.alloc (.cells #[.string N, .slice ca n ccap, .int .i64 K] 24)).grownBy W none) => And.intro (hW.cell HB.out.1 (by simp)) (And.intro (hW.cell HB.out.2.1 (by simp)) (hW.cell HB.out.2.2 (by simp))))
  obtain ⟨w0, hw0⟩ : ∃ w0, w0 = w.alloc (.cells #[.string N, .slice ca n ccap, .int .i64 K] 24) := ⟨_, rfl⟩
  by_cases h6 : 6 ≤ tn
  · have h6' : (6 : Int) ≤ tn := by omega
    have hv := Lib.hid (V3.out (by omega))
    go_enter Tryz.func41, Tryz.ntmps41
    go_wp2_with fail
    go_ret
    exact ⟨⟨_, hv.out, rfl⟩, K0.out⟩
  have h6' : ¬ (6 : Int) ≤ tn := by omega
  by_cases h1 : n < 1
  · have h1' : (n : Int) < 1 := by omega
    have hv := Lib.hid (V3.out (by omega))
    go_enter Tryz.func41, Tryz.ntmps41
    go_wp2_with fail
    go_ret
    exact ⟨⟨_, hv.out, rfl⟩, K0.out⟩
  by_cases h8 : 8 < n
  · have h1' : ¬ (n : Int) < 1 := by omega
    have h8' : (8 : Int) < n := by omega
    have hv := Lib.hid (V3.out (by omega))
    go_enter Tryz.func41, Tryz.ntmps41
    go_wp2_with fail
    go_ret
    exact ⟨⟨_, hv.out, rfl⟩, K0.out⟩
  have h1' : ¬ (n : Int) < 1 := by omega
  have h8' : ¬ (8 : Int) < n := by omega
  have HF := Lib.hid (show tn < 6 ∧ 1 ≤ n ∧ n ≤ 8 by omega)
  cases hnb : nameB N
  · rw [hnb] at HN
    have hv := Lib.hid (V2.out HF.out (fun h => by rw [HM.out] at h; rw [hnb] at h; cases h.1))
    clear hnb
    go_enter Tryz.func41, Tryz.ntmps41
    go_wp2_with fail
    refine (HN.out _).mono ?_
    rintro e w2 ⟨rfl, rfl⟩
    go_wp2_with fail
    go_ret
    exact ⟨⟨_, hv.out, rfl⟩, K0.out⟩
  rw [hnb] at HN
  have HNB := Lib.hid hnb
  clear hnb
  by_cases k1 : K < 1
  · have hv := Lib.hid (V2.out HF.out (fun h => by rw [HM.out] at h; have := h.2.1; omega))
    go_enter Tryz.func41, Tryz.ntmps41
    go_wp2_with fail
    refine (HN.out _).mono ?_
    rintro e w2 ⟨rfl, rfl⟩
    go_wp2_with fail
    go_ret
    exact ⟨⟨_, hv.out, rfl⟩, K0.out⟩
  by_cases k2 : (n : Int) < K
  · have hv := Lib.hid (V2.out HF.out (fun h => by rw [HM.out] at h; have := h.2.2.1; omega))
    go_enter Tryz.func41, Tryz.ntmps41
    go_wp2_with fail
    refine (HN.out _).mono ?_
    rintro e w2 ⟨rfl, rfl⟩
    go_wp2_with fail
    go_ret
    exact ⟨⟨_, hv.out, rfl⟩, K0.out⟩
  have HK := Lib.hid (show 1 ≤ K ∧ K ≤ n by omega)
  go_enter Tryz.func41, Tryz.ntmps41
  go_wp2_with fail
  refine (HN.out _).mono ?_
  rintro e w2 ⟨rfl, rfl⟩
  go_wp2_with fail
  go_loopw [45] (fun i wr => ∃ (k : Nat), i = .int .i64 k ∧ k ≤ n ∧ Hid (∀ i, i < k → colGood K i (l.getD i default)) ∧ Hid (w0.grownBy wr none)) (fun i _ => n - (intOf i).toNat)
  case atStart => exact ⟨0, rfl, by omega, Lib.hid (fun i hi => by omega), Lib.hid (by rw [hw0]; exact grown_refl6 _ _)⟩
  case round =>
    obtain ⟨k, rfl, hk, E, KR⟩ := hrel
    by_cases hlt : k < n
    · have Bad : Hid (¬ colGood K k (l.getD k default) → V 2) := Lib.hid fun hb => V2.out HF.out (fun h => by rw [HM.out] at h; exact hb (h.2.2.2 k hlt))
      have Good : Hid (colGood K k (l.getD k default) → ∀ i, i < k + 1 → colGood K i (l.getD i default)) := Lib.hid fun hb i hi => by
        by_cases e : i = k
        · rw [e]; exact hb
        · exact E.out i (by omega)
      obtain ⟨b, off, rfl, _, c0, c1, c2⟩ := (H.out.keep (K0.out.trans (by rw [← hw0]; exact KR.out)) (by simp)).at (i := k) (by rw [← Hn.out]; exact hlt)
      have HX := Lib.hid (HNc.out k hlt)
      generalize l.getD k default = x at *
      obtain ⟨xn, xk, xb⟩ := x
      simp only at c0 c1 c2 HX
      obtain ⟨d0, d1, d2⟩ := D0.out wr (by rw [← hw0]; exact KR.out)
      have d1' : ∀ o, (wr.alloc o).cell? ⟨w.heap.size, 1, none⟩ = some (.slice (some ⟨b, off, none⟩) n ccap) := fun o => (World.grownBy_alloc wr o none).cell d1 (by simp)
      have d2' : ∀ o, (wr.alloc o).cell? ⟨w.heap.size, 2, none⟩ = some (.int .i64 K) := fun o => (World.grownBy_alloc wr o none).cell d2 (by simp)
      have KA1 := Lib.hid (fun o => KR.out.trans (World.grownBy_alloc wr o none))
      have KA := Lib.hid (show ∀ o, w.grownBy (wr.alloc o) none from fun o => K0.out.trans (by rw [← hw0]; exact KA1.out o))
      have hend : Hid (¬ colGood K k ⟨xn, xk, xb⟩ → ∀ o, (∃ c, V c ∧ Ending.returned (.int .i64 2) = .returned (.int .i64 c)) ∧ w.grownBy (wr.alloc o) none) := Lib.hid fun hb o => ⟨⟨_, Bad.out hb, rfl⟩, KA.out o⟩
      have j0 : (k : Int) ≤ ccap := by omega
      cases hx : nameB xn
      · rw [hx] at HX
        have he := Lib.hid (hend.out (fun h => by rw [h.1] at hx; cases hx))
        clear hx
        go_wp2_with fail
        refine (HX.out _).mono ?_
        rintro e w2 ⟨rfl, rfl⟩
        go_wp2_with fail
        go_ret
        exact he.out _
      rw [hx] at HX
      have XB := Lib.hid hx
      clear hx
      by_cases q1 : xk < 1
      · have he := Lib.hid (hend.out (fun h => by have : xk = 1 ∨ xk = 2 ∨ xk = 3 := h.2.1; omega))
        go_wp2_with fail
        refine (HX.out _).mono ?_
        rintro e w2 ⟨rfl, rfl⟩
        go_wp2_with fail
        go_ret
        exact he.out _
      by_cases q3 : 3 < xk
      · have he := Lib.hid (hend.out (fun h => by have : xk = 1 ∨ xk = 2 ∨ xk = 3 := h.2.1; omega))
        go_wp2_with fail
        refine (HX.out _).mono ?_
        rintro e w2 ⟨rfl, rfl⟩
        go_wp2_with fail
        go_ret
        exact he.out _
      by_cases qk : (k : Int) < K
      · cases xb
        · have hgood := Lib.hid (Good.out ⟨XB.out, show xk = 1 ∨ xk = 2 ∨ xk = 3 by omega, fun _ => rfl⟩)
          go_wp2_with fail
          refine (HX.out _).mono ?_
          rintro e w2 ⟨rfl, rfl⟩
          go_wp2_with fail
          go_roundw
          case rel => exact ⟨k + 1, by go_num, by omega, hgood, Lib.hid (KA1.out _)⟩
          case measure => simp [intOf]; omega
        · have he := Lib.hid (hend.out (fun h => by have := h.2.2 qk; cases this))
          go_wp2_with fail
          refine (HX.out _).mono ?_
          rintro e w2 ⟨rfl, rfl⟩
          go_wp2_with fail
          go_ret
          exact he.out _
      · have hgood := Lib.hid (Good.out ⟨XB.out, show xk = 1 ∨ xk = 2 ∨ xk = 3 by omega, fun h => absurd h qk⟩)
        go_wp2_with fail
        refine (HX.out _).mono ?_
        rintro e w2 ⟨rfl, rfl⟩
        go_wp2_with fail
        go_roundw
        case rel => exact ⟨k + 1, by go_num, by omega, hgood, Lib.hid (KA1.out _)⟩
        case measure => simp [intOf]; omega
    · obtain rfl : n = k := by omega
      have HMt := Lib.hid (show M by rw [HM.out]; exact ⟨HNB.out, HK.out.1, HK.out.2, E.out⟩)
      have W23 := Lib.hid (V23.out HF.out HMt.out)
      have W0 := Lib.hid (V0.out HF.out HMt.out)
      clear HN HNc E V3 V2 V23 V0 HM HMt
      generalize wr = wa at *
      have D1 := Lib.hid (fun (W : World) (hW : wa.grownBy W none) => D0.out W (by rw [← hw0]; exact KR.out.trans hW))
      have KW := Lib.hid (show w.grownBy wa none from K0.out.trans (by rw [← hw0]; exact KR.out))
      clear D0 HB K0 KR
      obtain ⟨d0, d1, d2⟩ := D1.out wa (grown_refl6 _ _)
      clear hk hlt h1 h8 k2
      go_wp2_with fail
      go_loopw [80] (fun i wr2 => ∃ (q : Nat), i = .int .i64 q ∧ q ≤ tn ∧ Hid (∀ i, i < q → ((ts.getD i default).n.toList == N.toList) = false) ∧ Hid (wa.grownBy wr2 none)) (fun i _ => tn - (intOf i).toNat)
      case atStart => exact ⟨0, rfl, by omega, Lib.hid (fun i hi => by omega), Lib.hid (grown_refl6 _ _)⟩
      case round =>
        obtain ⟨q, rfl, hq, EA, KQ⟩ := hrel
        by_cases hqt : q < tn
        · have BadT : Hid (((ts.getD q default).n.toList == N.toList) = true → V 23) := Lib.hid fun hb => W23.out (fun h => by rw [HTT.out] at h; rw [h.1 q (by rw [← Htn.out]; exact hqt)] at hb; cases hb)
          have GoodT : Hid (((ts.getD q default).n.toList == N.toList) = false → ∀ i, i < q + 1 → ((ts.getD i default).n.toList == N.toList) = false) := Lib.hid fun hb i hi => by
            by_cases e : i = q
            · rw [e]; exact hb
            · exact EA.out i (by omega)
          obtain ⟨b, off, rfl, _, c0, c1, c2⟩ := (HT.out.keep (KW.out.trans KQ.out) (by simp)).at (i := q) (by rw [← Htn.out]; exact hqt)
          obtain ⟨f0, f1, f2⟩ := D1.out _ KQ.out
          clear d0 d1 d2 c1 c2
          generalize ts.getD q default = x at *
          obtain ⟨xn, xa, xc, xl, xk⟩ := x
          simp only at c0 BadT GoodT
          have j0 : (q : Int) ≤ cap := by omega
          have j1 : (q : Int) < tn := by omega
          cases he : (xn.toList == N.toList)
          · have hg := Lib.hid (GoodT.out he)
            go_wp2_with fail
            go_quiet (fail)
            go_wp2_with fail
            go_roundw
            case rel => exact ⟨q + 1, by go_num, by omega, hg, Lib.hid (grown_drewN6 KQ.out _)⟩
            case measure => simp [intOf]; omega
          · have hv := Lib.hid (BadT.out he)
            go_wp2_with fail
            go_quiet (fail)
            go_wp2_with fail
            go_ret
            exact ⟨⟨_, hv.out, rfl⟩, KW.out.trans (grown_drewN6 KQ.out _)⟩
        obtain rfl : q = tn := by omega
        have AP := Lib.hid (show Apart6 ts N by unfold Apart6; rw [← Htn.out]; exact EA.out)
        clear EA d0 d1 d2
        obtain ⟨d0, d1, d2⟩ := D1.out _ KQ.out
        go_wp2_with fail
        go_loopw [95] (fun i wr2 => ∃ (k : Nat), i = .int .i64 k ∧ k ≤ n ∧ Hid (Once6 l k) ∧ Hid (wa.grownBy wr2 none)) (fun i _ => n - (intOf i).toNat)
        case atStart => exact ⟨0, rfl, by omega, Lib.hid (fun i hi => by omega), KQ⟩
        case round =>
          obtain ⟨k, rfl, hk, EO, KR⟩ := hrel
          clear d0 d1 d2
          by_cases hlt : k < n
          · go_wp2_with fail
            go_loopw [9] (fun i wr2 => ∃ (j : Nat), i = .int .i64 j ∧ j ≤ k ∧ Hid (∀ i, i < j → ((l.getD i default).n.toList == (l.getD k default).n.toList) = false) ∧ Hid (wa.grownBy wr2 none)) (fun i _ => k - (intOf i).toNat)
            case atStart => exact ⟨0, rfl, by omega, Lib.hid (fun i hi => by omega), KR⟩
            case round =>
              obtain ⟨j, rfl, hj, EJ, KJ⟩ := hrel
              obtain ⟨d0, d1, d2⟩ := D1.out _ KJ.out
              by_cases hjk : j < k
              · have BadO : Hid (((l.getD j default).n.toList == (l.getD k default).n.toList) = true → V 23) := Lib.hid fun hb => W23.out (fun h => by rw [HTT.out] at h; rw [h.2 k hlt j hjk] at hb; cases hb)
                have GoodO : Hid (((l.getD j default).n.toList == (l.getD k default).n.toList) = false → ∀ i, i < j + 1 → ((l.getD i default).n.toList == (l.getD k default).n.toList) = false) := Lib.hid fun hb i hi => by
                  by_cases e : i = j
                  · rw [e]; exact hb
                  · exact EJ.out i (by omega)
                obtain ⟨b, off, rfl, _, c0, c1, c2⟩ := (H.out.keep (KW.out.trans KJ.out) (by simp)).at (i := k) (by rw [← Hn.out]; exact hlt)
                obtain ⟨b', off', e, _, e0, e1, e2⟩ := (H.out.keep (KW.out.trans KJ.out) (by simp)).at (i := j) (by rw [← Hn.out]; omega)
                obtain ⟨rfl, rfl⟩ : b = b' ∧ off = off' := by cases e; exact ⟨rfl, rfl⟩
                clear e
                generalize l.getD k default = x at *
                generalize l.getD j default = y at *
                obtain ⟨xn, xk, xb⟩ := x
                obtain ⟨yn, yk, yb⟩ := y
                simp only at c0 c1 c2 e0 e1 e2
                have j0 : (k : Int) ≤ ccap := by omega
                have j1 : (j : Int) < n := by omega
                clear c1 c2 e1 e2 EJ EO
                cases he : (yn.toList == xn.toList)
                · have hg := Lib.hid (GoodO.out he)
                  go_wp2_with fail
                  go_quiet (fail)
                  go_wp2_with fail
                  go_roundw
                  case rel => exact ⟨j + 1, by go_num, by omega, hg, Lib.hid (grown_drewN6 KJ.out _)⟩
                  case measure => simp [intOf]; omega
                · have hv := Lib.hid (BadO.out he)
                  go_wp2_with fail
                  go_quiet (fail)
                  go_wp2_with fail
                  go_ret
                  exact ⟨⟨_, hv.out, rfl⟩, KW.out.trans (grown_drewN6 KJ.out _)⟩
              · obtain rfl : j = k := by omega
                have EO2 : Hid (Once6 l (j + 1)) := Lib.hid fun i hi => by
                  by_cases e : i = j
                  · rw [e]; exact EJ.out
                  · exact EO.out i (by omega)
                go_wp2_with fail
                go_roundw
                case rel => exact ⟨j + 1, by go_num, by omega, EO2, KJ⟩
                case measure => simp [intOf]; omega
          · obtain rfl : n = k := by omega
            obtain ⟨d0, d1, d2⟩ := D1.out _ KR.out
            have hv := Lib.hid (W0.out (by rw [HTT.out]; exact ⟨AP.out, EO.out⟩))
            go_wp2_with fail
            go_ret
            exact ⟨⟨_, hv.out, rfl⟩, KW.out.trans KR.out⟩
end Go.Proofs.YtpklajadfbigcaaGreatDoor
namespace Go.Proofs.YtpklajadfbigcaaGreatDoor
open Go.RowKit

set_option maxRecDepth 100000 in
set_option maxHeartbeats 6400000 in
theorem refCheck_all (a : Option Addr) (cap : Nat) (l : List Tb) (w : World) (h : TabsAt w.heap.size w a l) (hcap : l.length ≤ cap) (hcs : ∀ t ∈ l, t.l.length ≤ t.cap) (hN : ∀ t ∈ l, t.n.size ≤ 9223372036854775807 ∧ ∀ i, i < t.l.length → (t.l.getD i default).n.size ≤ 9223372036854775807) :
    Calls Tryz.prog 20 #[.slice a l.length cap] w fun e w' => (RightG l ∧ e = .returned (.tuple #[.int .i64 0, .int .i64 0]) ∨ ∃ k y, Flaw6 (FullG l) (MalG l) (TwcG l) l.length k y ∧ e = .returned (.tuple #[.int .i64 k, .int .i64 y])) ∧ w.grownBy w' none := by
  have HW : Hid (∀ k, k < l.length → ∀ W, w.grownBy W none → Calls Tryz.prog 41 #[.slice a k cap, .agg #[.string (l.getD k default).n, .slice (l.getD k default).a (l.getD k default).l.length (l.getD k default).cap, .int .i64 (l.getD k default).k]] W fun e w' => (∃ c, Verd6 (FullG l k) (MalG l k) (TwcG l k) c ∧ e = .returned (.int .i64 c)) ∧ W.grownBy w' none) := Lib.hid fun k hk W hW => by
    have hl : (l.take k).length = k := by rw [List.length_take]; omega
    have := refWrong_all a (l.getD k default).a cap (l.getD k default).cap (l.take k) (l.getD k default).l (l.getD k default).n (l.getD k default).k W (((h.keep hW (by simp)).mono hW.size).pre (by omega)) (by omega) (((h.2.1 _ (tb_mem hk)).keep hW (by simp)).mono hW.size) (hcs _ (tb_mem hk)) (hN _ (tb_mem hk)).1 (hN _ (tb_mem hk)).2
    rw [hl] at this
    exact this
  have H := Lib.hid h
  have hlen := h.1
  unfold RightG
  generalize FullG l = F at *
  generalize MalG l = M at *
  generalize TwcG l = T at *
  obtain ⟨n, hn⟩ : ∃ n, n = l.length := ⟨_, rfl⟩
  have Hn := Lib.hid hn
  rw [← hn] at hlen hcap HW ⊢
  clear h hn hcs hN
  go_enter Tryz.func20, Tryz.ntmps20
  go_wp2_with fail
  go_loopw [8] (fun i wr => ∃ (k : Nat), i = .int .i64 k ∧ k ≤ n ∧ Hid (∀ i, i < k → F i ∧ M i ∧ T i) ∧ Hid (w.grownBy wr none)) (fun i _ => n - (intOf i).toNat)
  case atStart => exact ⟨0, rfl, by omega, Lib.hid (fun i hi => by omega), Lib.hid (grown_refl6 _ _)⟩
  case round =>
    obtain ⟨k, rfl, hk, E, KR⟩ := hrel
    by_cases hlt : k < n
    · obtain ⟨b, off, rfl, _, c0, c1, c2⟩ := (H.out.keep KR.out (by simp)).at (i := k) (by rw [← Hn.out]; exact hlt)
      have HX := Lib.hid (HW.out k hlt)
      have Next : Hid (Verd6 (F k) (M k) (T k) 0 → ∀ i, i < k + 1 → F i ∧ M i ∧ T i) := Lib.hid fun hv i hi => by
        by_cases e : i = k
        · subst e
          rcases hv with ⟨h1, h2, h3, _⟩ | ⟨_, h⟩ | ⟨_, _, h⟩ | ⟨_, _, _, h⟩
          · exact ⟨h1, h2, h3⟩
          all_goals omega
        · exact E.out i (by omega)
      have Stop : Hid (∀ c, c ≠ 0 → Verd6 (F k) (M k) (T k) c → Flaw6 F M T n k c) := Lib.hid fun c hc hv => by
        refine ⟨hlt, E.out, ?_⟩
        rcases hv with ⟨_, _, _, h⟩ | ⟨h1, h⟩ | ⟨h1, h2, h⟩ | ⟨h1, h2, h3, h⟩
        · exact absurd h hc
        · exact .inl ⟨h1, h⟩
        · exact .inr (.inl ⟨h1, h2, h⟩)
        · exact .inr (.inr ⟨h1, h2, h3, h⟩)
      clear HW E
      generalize l.getD k default = x at *
      obtain ⟨xn, xa, xc, xl, xk⟩ := x
      simp only at c0 c1 c2 HX
      generalize xl.length = xm at *
      have j0 : (k : Int) ≤ cap := by omega
      go_wp2_with fail
      go_region_with (go_at_call 41; (with_reducible refine (HX.out _ (by first | exact KR.out | exact grown_drew6 KR.out)).mono ?_); rintro e w4 ⟨⟨c, hv4, rfl⟩, hg4⟩; have K4 := Lib.hid hg4; have HV := Lib.hid hv4; clear hv4)
      all_goals
        by_cases hc : c = 0
        · subst hc
          have hnext := Lib.hid (Next.out HV.out)
          go_wp2_with fail
          go_roundw
          case rel => exact ⟨k + 1, by go_num, by omega, hnext, Lib.hid ((grown_drew6 KR.out).trans K4.out)⟩
          case measure => simp [intOf]; omega
        · have hstop := Lib.hid (Stop.out c hc HV.out)
          have hc' : (c != 0) = true := by simpa using hc
          clear hc
          go_wp2_with fail
          go_ret2
          exact ⟨.inr ⟨_, _, hstop.out, rfl⟩, (grown_drew6 KR.out).trans K4.out⟩
    · obtain rfl : k = n := by omega
      go_wp2_with fail
      go_ret2
      exact ⟨.inl ⟨E.out, rfl⟩, KR.out⟩
end Go.Proofs.YtpklajadfbigcaaGreatDoor
namespace Go.Proofs.YtpklajadfbigcaaGreatDoor
open Go.RowKit

end Go.Proofs.YtpklajadfbigcaaGreatDoor
namespace Go.Proofs.YtpklajadfbigcaaGreatDoor
open Go.RowKit

theorem RwS.of {w : World} {a : Option Addr} {l : List Vl} (h : RowAt w a l) (hl : l.length ≤ 4294967296) : RwS (fun b => b < w.heap.size) w a l :=
  ⟨hl, h.2.1, h.2.2.imp id fun ⟨b, off, e, hlt, hc⟩ => ⟨b, off, e, hlt, hlt, hc⟩⟩
end Go.Proofs.YtpklajadfbigcaaGreatDoor
