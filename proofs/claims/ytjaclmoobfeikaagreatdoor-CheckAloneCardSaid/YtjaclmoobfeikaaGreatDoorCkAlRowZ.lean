/- What the cards of layer 12 share: their fifteen listed variables, and what these give. The document's Check at any tables, without the program's. Appends to windows, room or none, of any number of elements. The document's sameItems. The document's SamePred. The document's SamePred, with places. The document's Same of two queries that are one tree, with places. A good catalog; its tables in another order, or one alone: what is found is the same. The law CheckAlone, walked: true at any text and any catalog. What opens a catalog among the arguments of a law, without the texts of the store's layers (from XPlainS and XPlainG). The law CheckAlone, in the row's words. PROVED: the card of CheckAlone: at every input, in whatever memory that meets the row's listed variables (which the card ties to the program's text), the call returns true and its arguments read as they did. No condition of our own. -/
import Derived.Test.YtjaclmoobfeikaaGreatDoorZl18
import Derived.Test.YtjaclmoobfeikaaGreatDoorZl25
import Derived.Test.YtjaclmoobfeikaaGreatDoorZl14
import Derived.Test.YtjaclmoobfeikaaGreatDoorZl16
import Derived.BigQuiet
import Derived.Deep.RegionWith
import Derived.Test.YtjaclmoobfeikaaGreatDoorZl36
import Derived.Test.YtjaclmoobfeikaaGreatDoorZl28
import Derived.Test.YtjaclmoobfeikaaGreatDoorZl21
import Derived.Test.YtjaclmoobfeikaaGreatDoorZl31
import Derived.Test.YtjaclmoobfeikaaGreatDoorZl33
import Derived.Deep.RegionHeld
import Derived.Test.YtjaclmoobfeikaaGreatDoorZl42
import Derived.Test.YtjaclmoobfeikaaGreatDoorZl43
import Derived.ProofKit
import Derived.OpenShut
import Derived.Deep.Slices
import Derived.Deep.Fields
import Derived.ChangeSame
import Derived.Lib.SmallJoins
import Derived.Test.YtjaclmoobfeikaaGreatDoorCards
import Derived.Test.YtjaclmoobfeikaaGreatDoorTie
import Derived.SevenTiedAt
namespace Go.Proofs.YtjaclmoobfeikaaGreatDoor
open Go.ChangeShapes Go.WideShapes Go.ChangeAt Go.RowKit Go.Joins Go.Deep

def tail12x : List (String × DataW Unit) := [("math/bits.deBruijn32tab", Rows.laid_math_bits_deBruijn32tab), ("math/bits.deBruijn64tab", Rows.laid_math_bits_deBruijn64tab), ("internal/strconv.uint64pow10", Rows.laid_internal_strconv_uint64pow10), ("strconv.ErrRange", Rows.laid_strconv_ErrRange), ("strconv.ErrSyntax", Rows.laid_strconv_ErrSyntax), ("stillroom/check.errTable", Rows.laid_stillroom_check_errTable), ("stillroom/check.errColumn", Rows.laid_stillroom_check_errColumn), ("stillroom/check.errType", Rows.laid_stillroom_check_errType), ("stillroom/check.errTwice", Rows.laid_stillroom_check_errTwice), ("stillroom/check.errGroup", Rows.laid_stillroom_check_errGroup), ("stillroom/lex.errNone", Rows.laid_stillroom_lex_errNone), ("stillroom/lex.errGreat", Rows.laid_stillroom_lex_errGreat), ("stillroom/lex.errMany", Rows.laid_stillroom_lex_errMany), ("stillroom/lex.errLong", Rows.laid_stillroom_lex_errLong)]
def laid12x : List (String × DataW Unit) := [("math/bits.deBruijn32tab", Rows.laid_math_bits_deBruijn32tab), ("math/bits.deBruijn64tab", Rows.laid_math_bits_deBruijn64tab), ("internal/strconv.uint64pow10", Rows.laid_internal_strconv_uint64pow10), ("errors.errorType", Rows.laid_errors_errorType), ("strconv.ErrRange", Rows.laid_strconv_ErrRange), ("strconv.ErrSyntax", Rows.laid_strconv_ErrSyntax), ("stillroom/check.errTable", Rows.laid_stillroom_check_errTable), ("stillroom/check.errColumn", Rows.laid_stillroom_check_errColumn), ("stillroom/check.errType", Rows.laid_stillroom_check_errType), ("stillroom/check.errTwice", Rows.laid_stillroom_check_errTwice), ("stillroom/check.errGroup", Rows.laid_stillroom_check_errGroup), ("stillroom/lex.errNone", Rows.laid_stillroom_lex_errNone), ("stillroom/lex.errGreat", Rows.laid_stillroom_lex_errGreat), ("stillroom/lex.errMany", Rows.laid_stillroom_lex_errMany), ("stillroom/lex.errLong", Rows.laid_stillroom_lex_errLong)]
theorem door_met12x (os : Os) (args : Array Value) : laidMetH Tryz.prog laid12x ((World.doorLaid Tryz.prog 400 os).forCall (fun _ _ => 0) ⟨#[], args, []⟩).memory :=
  laidMetH_of_parts3 (fuel := 8) (laidMet_of_run' 8 (by kernel_rfl) (by kernel_rfl)) (by kernel_rfl) (by kernel_rfl)
theorem split12x {W : World} (h : laidMetH Tryz.prog laid12x W) : laidMet Tryz.prog tail12x W ∧ handlesMet Tryz.prog [("errors.errorType", Rows.laid_errors_errorType)] W := h
set_option maxRecDepth 100000 in
theorem lxEnv12_of {W : World} (h : laidMetH Tryz.prog laid12x W) : ∃ n g m l, LxEnv W.heap.size n g m l W := by
  have h5 := (split12x h).1.tail.tail.tail
  obtain ⟨_, hr⟩ := senAt_of h5 (by kernel_rfl) (by kernel_rfl)
  have h6 := h5.tail.tail.tail.tail.tail.tail.tail
  obtain ⟨n, hn⟩ := senAt_of h6 (by kernel_rfl) (by kernel_rfl)
  obtain ⟨g, hg⟩ := senAt_of h6.tail (by kernel_rfl) (by kernel_rfl)
  obtain ⟨m, hm⟩ := senAt_of h6.tail.tail (by kernel_rfl) (by kernel_rfl)
  obtain ⟨l, hl⟩ := senAt_of h6.tail.tail.tail (by kernel_rfl) (by kernel_rfl)
  exact ⟨n, g, m, l, hn, hg, hm, hl, ⟨_, _, hr.var⟩, hr.lt, handle_of (split12x h).2 (by simp), Nat.le_refl _⟩
def five12 (a b c d e : Addr) : Nat → Addr := fun n => if n = 14 then a else if n = 15 then b else if n = 16 then c else if n = 23 then d else e
set_option maxRecDepth 100000 in
theorem ckEnv12_of {W : World} (h : laidMetH Tryz.prog laid12x W) : ∃ f, CkEnv W.heap.size f W := by
  have h5 := (split12x h).1.tail.tail.tail.tail.tail
  obtain ⟨a, ha⟩ := senAt_of h5 (by kernel_rfl) (by kernel_rfl)
  obtain ⟨b, hb⟩ := senAt_of h5.tail (by kernel_rfl) (by kernel_rfl)
  obtain ⟨c, hc⟩ := senAt_of h5.tail.tail (by kernel_rfl) (by kernel_rfl)
  obtain ⟨d, hd⟩ := senAt_of h5.tail.tail.tail (by kernel_rfl) (by kernel_rfl)
  obtain ⟨e, he⟩ := senAt_of h5.tail.tail.tail.tail (by kernel_rfl) (by kernel_rfl)
  exact ⟨five12 a b c d e, ha, hb, hc, hd, he, handle_of (split12x h).2 (by simp), Nat.le_refl _⟩
end Go.Proofs.YtjaclmoobfeikaaGreatDoor
namespace Go.Proofs.YtjaclmoobfeikaaGreatDoor
open Go.RowKit

theorem TabsAt.pre {B : Nat} {w : World} {a : Option Addr} {l : List Tb} (h : TabsAt B w a l) {k : Nat} (hk : k ≤ l.length) : TabsAt B w a (l.take k) := by
  refine ⟨by rw [List.length_take]; have := h.1; omega, fun t ht => h.2.1 t (List.mem_of_mem_take ht), ?_⟩
  rcases h.2.2 with h0 | ⟨b, off, e, hlt, hc⟩
  · exact .inl (by rw [h0]; simp)
  · refine .inr ⟨b, off, e, hlt, fun i hi => ?_⟩
    rw [List.length_take] at hi
    have e : (l.take k).getD i default = l.getD i default := by simp [List.getD, show i < k by omega]
    rw [e]
    exact hc i (by omega)
theorem tb_mem {l : List Tb} {i : Nat} (hi : i < l.length) : l.getD i default ∈ l := by simp [List.getD, hi]
end Go.Proofs.YtjaclmoobfeikaaGreatDoor
namespace Go.Proofs.YtjaclmoobfeikaaGreatDoor
open Go.RowKit

theorem grown_drew6 {w w' : World} {row : Option Nat} (h : w.grownBy w' row) : w.grownBy w'.drew row := ⟨h.os, h.tape, h.output, h.size, h.block⟩
theorem ColsAt.pre {B : Nat} {w : World} {a : Option Addr} {l : List Cl} (h : ColsAt B w a l) {k : Nat} (hk : k ≤ l.length) : ColsAt B w a (l.take k) := by
  refine ⟨by rw [List.length_take]; have := h.1; omega, ?_⟩
  rcases h.2 with h0 | ⟨b, off, e, hlt, hc⟩
  · exact .inl (by rw [h0]; simp)
  · refine .inr ⟨b, off, e, hlt, fun i hi => ?_⟩
    rw [List.length_take] at hi
    have e : (l.take k).getD i default = l.getD i default := by simp [List.getD, show i < k by omega]
    rw [e]
    exact hc i (by omega)
end Go.Proofs.YtjaclmoobfeikaaGreatDoor
namespace Go.Proofs.YtjaclmoobfeikaaGreatDoor
open Go.RowKit

def Apart6 (ts : List Tb) (N : ByteArray) : Prop := ∀ i, i < ts.length → ((ts.getD i default).n.toList == N.toList) = false
def Once6 (l : List Cl) (k : Nat) : Prop := ∀ i, i < k → ∀ j, j < i → ((l.getD j default).n.toList == (l.getD i default).n.toList) = false
end Go.Proofs.YtjaclmoobfeikaaGreatDoor
namespace Go.Proofs.YtjaclmoobfeikaaGreatDoor
open Go.RowKit

/-- The first flaw: of the table of number k, told by y. -/
def Flaw6 (F M T : Nat → Prop) (n k : Nat) (y : Int) : Prop := k < n ∧ (∀ i, i < k → F i ∧ M i ∧ T i) ∧ (¬ F k ∧ y = 3 ∨ F k ∧ ¬ M k ∧ y = 2 ∨ F k ∧ M k ∧ ¬ T k ∧ y = 23)
end Go.Proofs.YtjaclmoobfeikaaGreatDoor
namespace Go.Proofs.YtjaclmoobfeikaaGreatDoor
open Go.RowKit

def FullG (l : List Tb) (i : Nat) : Prop := i < 6 ∧ 1 ≤ (l.getD i default).l.length ∧ (l.getD i default).l.length ≤ 8
def MalG (l : List Tb) (i : Nat) : Prop := nameB (l.getD i default).n = true ∧ 1 ≤ (l.getD i default).k ∧ (l.getD i default).k ≤ (l.getD i default).l.length ∧ ∀ j, j < (l.getD i default).l.length → colGood (l.getD i default).k j ((l.getD i default).l.getD j default)
def TwcG (l : List Tb) (i : Nat) : Prop := Apart6 (l.take i) (l.getD i default).n ∧ Once6 (l.getD i default).l (l.getD i default).l.length
/-- Right: no table of the list is flawed. -/
def RightG (l : List Tb) : Prop := ∀ i, i < l.length → FullG l i ∧ MalG l i ∧ TwcG l i
end Go.Proofs.YtjaclmoobfeikaaGreatDoor
namespace Go.Proofs.YtjaclmoobfeikaaGreatDoor
open Go.RowKit

/-- The verdict on one table. -/
def Verd6 (F M T : Prop) (c : Int) : Prop := F ∧ M ∧ T ∧ c = 0 ∨ ¬ F ∧ c = 3 ∨ F ∧ ¬ M ∧ c = 2 ∨ F ∧ M ∧ ¬ T ∧ c = 23
set_option maxRecDepth 100000 in
set_option maxHeartbeats 6400000 in
theorem refWrong_all (a ca : Option Addr) (cap ccap : Nat) (ts : List Tb) (l : List Cl) (N : ByteArray) (K : Int) (w : World) (ht : TabsAt w.heap.size w a ts) (hts : ts.length ≤ cap) (h : ColsAt w.heap.size w ca l) (hcap : l.length ≤ ccap) (hN : N.size ≤ 9223372036854775807) (hn : ∀ i, i < l.length → (l.getD i default).n.size ≤ 9223372036854775807) :
    Calls Tryz.prog 29 #[.slice a ts.length cap, .agg #[.string N, .slice ca l.length ccap, .int .i64 K]] w fun e w' => (∃ c, Verd6 (ts.length < 6 ∧ 1 ≤ l.length ∧ l.length ≤ 8) (nameB N = true ∧ 1 ≤ K ∧ K ≤ l.length ∧ ∀ i, i < l.length → colGood K i (l.getD i default)) (Apart6 ts N ∧ Once6 l l.length) c ∧ e = .returned (.int .i64 c)) ∧ w.grownBy w' none := by
  have HN := Lib.hid (fun W => refName_any N W hN)
  have HT := Lib.hid ht
  have htl := ht.1
  obtain ⟨tn, htn⟩ : ∃ tn, tn = ts.length := ⟨_, rfl⟩
  have Htn := Lib.hid htn
  rw [← htn] at hts htl ⊢
  clear htn ht
  have HNc := Lib.hid (fun k hk W => refName_any (l.getD k default).n W (hn k hk))
  have H := Lib.hid h
  have HB := Lib.hid (box3_new6 w (.string N) (.slice ca l.length ccap) (.int .i64 K) 44)
  have hlen := h.1
  obtain ⟨n, hn'⟩ : ∃ n, n = l.length := ⟨_, rfl⟩
  have Hn := Lib.hid hn'
  rw [← hn'] at hlen HB hcap HNc ⊢
  clear h hn' hn
  obtain ⟨M, hM⟩ : ∃ M : Prop, M = (nameB N = true ∧ 1 ≤ K ∧ K ≤ n ∧ ∀ i, i < n → colGood K i (l.getD i default)) := ⟨_, rfl⟩
  obtain ⟨T, hT⟩ : ∃ T : Prop, T = (Apart6 ts N ∧ Once6 l n) := ⟨_, rfl⟩
  rw [← hM, ← hT]
  obtain ⟨V, hV⟩ : ∃ V : Int → Prop, V = Verd6 (tn < 6 ∧ 1 ≤ n ∧ n ≤ 8) M T := ⟨_, rfl⟩
  rw [← hV]
  have V3 : Hid (¬ (tn < 6 ∧ 1 ≤ n ∧ n ≤ 8) → V 3) := Lib.hid fun h => by rw [hV]; exact .inr (.inl ⟨h, rfl⟩)
  have V2 : Hid (tn < 6 ∧ 1 ≤ n ∧ n ≤ 8 → ¬ M → V 2) := Lib.hid fun h1 h2 => by rw [hV]; exact .inr (.inr (.inl ⟨h1, h2, rfl⟩))
  have V23 : Hid (tn < 6 ∧ 1 ≤ n ∧ n ≤ 8 → M → ¬ T → V 23) := Lib.hid fun h1 h2 h3 => by rw [hV]; exact .inr (.inr (.inr ⟨h1, h2, h3, rfl⟩))
  have V0 : Hid (tn < 6 ∧ 1 ≤ n ∧ n ≤ 8 → M → T → V 0) := Lib.hid fun h1 h2 h3 => by rw [hV]; exact .inl ⟨h1, h2, h3, rfl⟩
  have HM := Lib.hid hM
  have HTT := Lib.hid hT
  clear hM hT hV
  have K0 := Lib.hid (World.grownBy_alloc w (.cells #[.string N, .slice ca n ccap, .int .i64 K] 44) none)
  have D0 := Lib.hid (fun (W : World) (hW : (w.alloc (.cells #[.string N, .slice ca n ccap, .int .i64 K] 44)).grownBy W none) => And.intro (hW.cell HB.out.1 (by simp)) (And.intro (hW.cell HB.out.2.1 (by simp)) (hW.cell HB.out.2.2 (by simp))))
  obtain ⟨w0, hw0⟩ : ∃ w0, w0 = w.alloc (.cells #[.string N, .slice ca n ccap, .int .i64 K] 44) := ⟨_, rfl⟩
  by_cases h6 : 6 ≤ tn
  · have h6' : (6 : Int) ≤ tn := by omega
    have hv := Lib.hid (V3.out (by omega))
    go_enter Tryz.func29, Tryz.ntmps29
    go_wp2_with fail
    go_ret
    exact ⟨⟨_, hv.out, rfl⟩, K0.out⟩
  have h6' : ¬ (6 : Int) ≤ tn := by omega
  by_cases h1 : n < 1
  · have h1' : (n : Int) < 1 := by omega
    have hv := Lib.hid (V3.out (by omega))
    go_enter Tryz.func29, Tryz.ntmps29
    go_wp2_with fail
    go_ret
    exact ⟨⟨_, hv.out, rfl⟩, K0.out⟩
  by_cases h8 : 8 < n
  · have h1' : ¬ (n : Int) < 1 := by omega
    have h8' : (8 : Int) < n := by omega
    have hv := Lib.hid (V3.out (by omega))
    go_enter Tryz.func29, Tryz.ntmps29
    go_wp2_with fail
    go_ret
    exact ⟨⟨_, hv.out, rfl⟩, K0.out⟩
  have h1' : ¬ (n : Int) < 1 := by omega
  have h8' : ¬ (8 : Int) < n := by omega
  have HF := Lib.hid (show tn < 6 ∧ 1 ≤ n ∧ n ≤ 8 by omega)
  cases hnb : nameB N
  · rw [hnb] at HN
    have hv := Lib.hid (V2.out HF.out (fun h => by rw [HM.out] at h; rw [hnb] at h; cases h.1))
    clear hnb
    go_enter Tryz.func29, Tryz.ntmps29
    go_wp2_with fail
    refine (HN.out _).mono ?_
    rintro e w2 ⟨rfl, rfl⟩
    go_wp2_with fail
    go_ret
    exact ⟨⟨_, hv.out, rfl⟩, K0.out⟩
  rw [hnb] at HN
  have HNB := Lib.hid hnb
  clear hnb
  by_cases k1 : K < 1
  · have hv := Lib.hid (V2.out HF.out (fun h => by rw [HM.out] at h; have := h.2.1; omega))
    go_enter Tryz.func29, Tryz.ntmps29
    go_wp2_with fail
    refine (HN.out _).mono ?_
    rintro e w2 ⟨rfl, rfl⟩
    go_wp2_with fail
    go_ret
    exact ⟨⟨_, hv.out, rfl⟩, K0.out⟩
  by_cases k2 : (n : Int) < K
  · have hv := Lib.hid (V2.out HF.out (fun h => by rw [HM.out] at h; have := h.2.2.1; omega))
    go_enter Tryz.func29, Tryz.ntmps29
    go_wp2_with fail
    refine (HN.out _).mono ?_
    rintro e w2 ⟨rfl, rfl⟩
    go_wp2_with fail
    go_ret
    exact ⟨⟨_, hv.out, rfl⟩, K0.out⟩
  have HK := Lib.hid (show 1 ≤ K ∧ K ≤ n by omega)
  go_enter Tryz.func29, Tryz.ntmps29
  go_wp2_with fail
  refine (HN.out _).mono ?_
  rintro e w2 ⟨rfl, rfl⟩
  go_wp2_with fail
  go_loopw [45] (fun i wr => ∃ (k : Nat), i = .int .i64 k ∧ k ≤ n ∧ Hid (∀ i, i < k → colGood K i (l.getD i default)) ∧ Hid (w0.grownBy wr none)) (fun i _ => n - (intOf i).toNat)
  case atStart => exact ⟨0, rfl, by omega, Lib.hid (fun i hi => by omega), Lib.hid (by rw [hw0]; exact grown_refl6 _ _)⟩
  case round =>
    obtain ⟨k, rfl, hk, E, KR⟩ := hrel
    by_cases hlt : k < n
    · have Bad : Hid (¬ colGood K k (l.getD k default) → V 2) := Lib.hid fun hb => V2.out HF.out (fun h => by rw [HM.out] at h; exact hb (h.2.2.2 k hlt))
      have Good : Hid (colGood K k (l.getD k default) → ∀ i, i < k + 1 → colGood K i (l.getD i default)) := Lib.hid fun hb i hi => by
        by_cases e : i = k
        · rw [e]; exact hb
        · exact E.out i (by omega)
      obtain ⟨b, off, rfl, _, c0, c1, c2⟩ := (H.out.keep (K0.out.trans (by rw [← hw0]; exact KR.out)) (by simp)).at (i := k) (by rw [← Hn.out]; exact hlt)
      have HX := Lib.hid (HNc.out k hlt)
      generalize l.getD k default = x at *
      obtain ⟨xn, xk, xb⟩ := x
      simp only at c0 c1 c2 HX
      obtain ⟨d0, d1, d2⟩ := D0.out wr (by rw [← hw0]; exact KR.out)
      have d1' : ∀ o, (wr.alloc o).cell? ⟨w.heap.size, 1, none⟩ = some (.slice (some ⟨b, off, none⟩) n ccap) := fun o => (World.grownBy_alloc wr o none).cell d1 (by simp)
      have d2' : ∀ o, (wr.alloc o).cell? ⟨w.heap.size, 2, none⟩ = some (.int .i64 K) := fun o => (World.grownBy_alloc wr o none).cell d2 (by simp)
      have KA1 := Lib.hid (fun o => KR.out.trans (World.grownBy_alloc wr o none))
      have KA := Lib.hid (show ∀ o, w.grownBy (wr.alloc o) none from fun o => K0.out.trans (by rw [← hw0]; exact KA1.out o))
      have hend : Hid (¬ colGood K k ⟨xn, xk, xb⟩ → ∀ o, (∃ c, V c ∧ Ending.returned (.int .i64 2) = .returned (.int .i64 c)) ∧ w.grownBy (wr.alloc o) none) := Lib.hid fun hb o => ⟨⟨_, Bad.out hb, rfl⟩, KA.out o⟩
      have j0 : (k : Int) ≤ ccap := by omega
      cases hx : nameB xn
      · rw [hx] at HX
        have he := Lib.hid (hend.out (fun h => by rw [h.1] at hx; cases hx))
        clear hx
        go_wp2_with fail
        refine (HX.out _).mono ?_
        rintro e w2 ⟨rfl, rfl⟩
        go_wp2_with fail
        go_ret
        exact he.out _
      rw [hx] at HX
      have XB := Lib.hid hx
      clear hx
      by_cases q1 : xk < 1
      · have he := Lib.hid (hend.out (fun h => by have : xk = 1 ∨ xk = 2 ∨ xk = 3 := h.2.1; omega))
        go_wp2_with fail
        refine (HX.out _).mono ?_
        rintro e w2 ⟨rfl, rfl⟩
        go_wp2_with fail
        go_ret
        exact he.out _
      by_cases q3 : 3 < xk
      · have he := Lib.hid (hend.out (fun h => by have : xk = 1 ∨ xk = 2 ∨ xk = 3 := h.2.1; omega))
        go_wp2_with fail
        refine (HX.out _).mono ?_
        rintro e w2 ⟨rfl, rfl⟩
        go_wp2_with fail
        go_ret
        exact he.out _
      by_cases qk : (k : Int) < K
      · cases xb
        · have hgood := Lib.hid (Good.out ⟨XB.out, show xk = 1 ∨ xk = 2 ∨ xk = 3 by omega, fun _ => rfl⟩)
          go_wp2_with fail
          refine (HX.out _).mono ?_
          rintro e w2 ⟨rfl, rfl⟩
          go_wp2_with fail
          go_roundw
          case rel => exact ⟨k + 1, by go_num, by omega, hgood, Lib.hid (KA1.out _)⟩
          case measure => simp [intOf]; omega
        · have he := Lib.hid (hend.out (fun h => by have := h.2.2 qk; cases this))
          go_wp2_with fail
          refine (HX.out _).mono ?_
          rintro e w2 ⟨rfl, rfl⟩
          go_wp2_with fail
          go_ret
          exact he.out _
      · have hgood := Lib.hid (Good.out ⟨XB.out, show xk = 1 ∨ xk = 2 ∨ xk = 3 by omega, fun h => absurd h qk⟩)
        go_wp2_with fail
        refine (HX.out _).mono ?_
        rintro e w2 ⟨rfl, rfl⟩
        go_wp2_with fail
        go_roundw
        case rel => exact ⟨k + 1, by go_num, by omega, hgood, Lib.hid (KA1.out _)⟩
        case measure => simp [intOf]; omega
    · obtain rfl : n = k := by omega
      have HMt := Lib.hid (show M by rw [HM.out]; exact ⟨HNB.out, HK.out.1, HK.out.2, E.out⟩)
      have W23 := Lib.hid (V23.out HF.out HMt.out)
      have W0 := Lib.hid (V0.out HF.out HMt.out)
      clear HN HNc E V3 V2 V23 V0 HM HMt
      generalize wr = wa at *
      have D1 := Lib.hid (fun (W : World) (hW : wa.grownBy W none) => D0.out W (by rw [← hw0]; exact KR.out.trans hW))
      have KW := Lib.hid (show w.grownBy wa none from K0.out.trans (by rw [← hw0]; exact KR.out))
      clear D0 HB K0 KR
      obtain ⟨d0, d1, d2⟩ := D1.out wa (grown_refl6 _ _)
      clear hk hlt h1 h8 k2
      go_wp2_with fail
      go_loopw [80] (fun i wr2 => ∃ (q : Nat), i = .int .i64 q ∧ q ≤ tn ∧ Hid (∀ i, i < q → ((ts.getD i default).n.toList == N.toList) = false) ∧ Hid (wa.grownBy wr2 none)) (fun i _ => tn - (intOf i).toNat)
      case atStart => exact ⟨0, rfl, by omega, Lib.hid (fun i hi => by omega), Lib.hid (grown_refl6 _ _)⟩
      case round =>
        obtain ⟨q, rfl, hq, EA, KQ⟩ := hrel
        by_cases hqt : q < tn
        · have BadT : Hid (((ts.getD q default).n.toList == N.toList) = true → V 23) := Lib.hid fun hb => W23.out (fun h => by rw [HTT.out] at h; rw [h.1 q (by rw [← Htn.out]; exact hqt)] at hb; cases hb)
          have GoodT : Hid (((ts.getD q default).n.toList == N.toList) = false → ∀ i, i < q + 1 → ((ts.getD i default).n.toList == N.toList) = false) := Lib.hid fun hb i hi => by
            by_cases e : i = q
            · rw [e]; exact hb
            · exact EA.out i (by omega)
          obtain ⟨b, off, rfl, _, c0, c1, c2⟩ := (HT.out.keep (KW.out.trans KQ.out) (by simp)).at (i := q) (by rw [← Htn.out]; exact hqt)
          obtain ⟨f0, f1, f2⟩ := D1.out _ KQ.out
          clear d0 d1 d2 c1 c2
          generalize ts.getD q default = x at *
          obtain ⟨xn, xa, xc, xl, xk⟩ := x
          simp only at c0 BadT GoodT
          have j0 : (q : Int) ≤ cap := by omega
          have j1 : (q : Int) < tn := by omega
          cases he : (xn.toList == N.toList)
          · have hg := Lib.hid (GoodT.out he)
            go_wp2_with fail
            go_quiet (fail)
            go_wp2_with fail
            go_roundw
            case rel => exact ⟨q + 1, by go_num, by omega, hg, Lib.hid (grown_drewN6 KQ.out _)⟩
            case measure => simp [intOf]; omega
          · have hv := Lib.hid (BadT.out he)
            go_wp2_with fail
            go_quiet (fail)
            go_wp2_with fail
            go_ret
            exact ⟨⟨_, hv.out, rfl⟩, KW.out.trans (grown_drewN6 KQ.out _)⟩
        obtain rfl : q = tn := by omega
        have AP := Lib.hid (show Apart6 ts N by unfold Apart6; rw [← Htn.out]; exact EA.out)
        clear EA d0 d1 d2
        obtain ⟨d0, d1, d2⟩ := D1.out _ KQ.out
        go_wp2_with fail
        go_loopw [95] (fun i wr2 => ∃ (k : Nat), i = .int .i64 k ∧ k ≤ n ∧ Hid (Once6 l k) ∧ Hid (wa.grownBy wr2 none)) (fun i _ => n - (intOf i).toNat)
        case atStart => exact ⟨0, rfl, by omega, Lib.hid (fun i hi => by omega), KQ⟩
        case round =>
          obtain ⟨k, rfl, hk, EO, KR⟩ := hrel
          clear d0 d1 d2
          by_cases hlt : k < n
          · go_wp2_with fail
            go_loopw [9] (fun i wr2 => ∃ (j : Nat), i = .int .i64 j ∧ j ≤ k ∧ Hid (∀ i, i < j → ((l.getD i default).n.toList == (l.getD k default).n.toList) = false) ∧ Hid (wa.grownBy wr2 none)) (fun i _ => k - (intOf i).toNat)
            case atStart => exact ⟨0, rfl, by omega, Lib.hid (fun i hi => by omega), KR⟩
            case round =>
              obtain ⟨j, rfl, hj, EJ, KJ⟩ := hrel
              obtain ⟨d0, d1, d2⟩ := D1.out _ KJ.out
              by_cases hjk : j < k
              · have BadO : Hid (((l.getD j default).n.toList == (l.getD k default).n.toList) = true → V 23) := Lib.hid fun hb => W23.out (fun h => by rw [HTT.out] at h; rw [h.2 k hlt j hjk] at hb; cases hb)
                have GoodO : Hid (((l.getD j default).n.toList == (l.getD k default).n.toList) = false → ∀ i, i < j + 1 → ((l.getD i default).n.toList == (l.getD k default).n.toList) = false) := Lib.hid fun hb i hi => by
                  by_cases e : i = j
                  · rw [e]; exact hb
                  · exact EJ.out i (by omega)
                obtain ⟨b, off, rfl, _, c0, c1, c2⟩ := (H.out.keep (KW.out.trans KJ.out) (by simp)).at (i := k) (by rw [← Hn.out]; exact hlt)
                obtain ⟨b', off', e, _, e0, e1, e2⟩ := (H.out.keep (KW.out.trans KJ.out) (by simp)).at (i := j) (by rw [← Hn.out]; omega)
                obtain ⟨rfl, rfl⟩ : b = b' ∧ off = off' := by cases e; exact ⟨rfl, rfl⟩
                clear e
                generalize l.getD k default = x at *
                generalize l.getD j default = y at *
                obtain ⟨xn, xk, xb⟩ := x
                obtain ⟨yn, yk, yb⟩ := y
                simp only at c0 c1 c2 e0 e1 e2
                have j0 : (k : Int) ≤ ccap := by omega
                have j1 : (j : Int) < n := by omega
                clear c1 c2 e1 e2 EJ EO
                cases he : (yn.toList == xn.toList)
                · have hg := Lib.hid (GoodO.out he)
                  go_wp2_with fail
                  go_quiet (fail)
                  go_wp2_with fail
                  go_roundw
                  case rel => exact ⟨j + 1, by go_num, by omega, hg, Lib.hid (grown_drewN6 KJ.out _)⟩
                  case measure => simp [intOf]; omega
                · have hv := Lib.hid (BadO.out he)
                  go_wp2_with fail
                  go_quiet (fail)
                  go_wp2_with fail
                  go_ret
                  exact ⟨⟨_, hv.out, rfl⟩, KW.out.trans (grown_drewN6 KJ.out _)⟩
              · obtain rfl : j = k := by omega
                have EO2 : Hid (Once6 l (j + 1)) := Lib.hid fun i hi => by
                  by_cases e : i = j
                  · rw [e]; exact EJ.out
                  · exact EO.out i (by omega)
                go_wp2_with fail
                go_roundw
                case rel => exact ⟨j + 1, by go_num, by omega, EO2, KJ⟩
                case measure => simp [intOf]; omega
          · obtain rfl : n = k := by omega
            obtain ⟨d0, d1, d2⟩ := D1.out _ KR.out
            have hv := Lib.hid (W0.out (by rw [HTT.out]; exact ⟨AP.out, EO.out⟩))
            go_wp2_with fail
            go_ret
            exact ⟨⟨_, hv.out, rfl⟩, KW.out.trans KR.out⟩
end Go.Proofs.YtjaclmoobfeikaaGreatDoor
namespace Go.Proofs.YtjaclmoobfeikaaGreatDoor
open Go.RowKit

set_option maxRecDepth 100000 in
set_option maxHeartbeats 6400000 in
theorem refCheck_all (a : Option Addr) (cap : Nat) (l : List Tb) (w : World) (h : TabsAt w.heap.size w a l) (hcap : l.length ≤ cap) (hcs : ∀ t ∈ l, t.l.length ≤ t.cap) (hN : ∀ t ∈ l, t.n.size ≤ 9223372036854775807 ∧ ∀ i, i < t.l.length → (t.l.getD i default).n.size ≤ 9223372036854775807) :
    Calls Tryz.prog 14 #[.slice a l.length cap] w fun e w' => (RightG l ∧ e = .returned (.tuple #[.int .i64 0, .int .i64 0]) ∨ ∃ k y, Flaw6 (FullG l) (MalG l) (TwcG l) l.length k y ∧ e = .returned (.tuple #[.int .i64 k, .int .i64 y])) ∧ w.grownBy w' none := by
  have HW : Hid (∀ k, k < l.length → ∀ W, w.grownBy W none → Calls Tryz.prog 29 #[.slice a k cap, .agg #[.string (l.getD k default).n, .slice (l.getD k default).a (l.getD k default).l.length (l.getD k default).cap, .int .i64 (l.getD k default).k]] W fun e w' => (∃ c, Verd6 (FullG l k) (MalG l k) (TwcG l k) c ∧ e = .returned (.int .i64 c)) ∧ W.grownBy w' none) := Lib.hid fun k hk W hW => by
    have hl : (l.take k).length = k := by rw [List.length_take]; omega
    have := refWrong_all a (l.getD k default).a cap (l.getD k default).cap (l.take k) (l.getD k default).l (l.getD k default).n (l.getD k default).k W (((h.keep hW (by simp)).mono hW.size).pre (by omega)) (by omega) (((h.2.1 _ (tb_mem hk)).keep hW (by simp)).mono hW.size) (hcs _ (tb_mem hk)) (hN _ (tb_mem hk)).1 (hN _ (tb_mem hk)).2
    rw [hl] at this
    exact this
  have H := Lib.hid h
  have hlen := h.1
  unfold RightG
  generalize FullG l = F at *
  generalize MalG l = M at *
  generalize TwcG l = T at *
  obtain ⟨n, hn⟩ : ∃ n, n = l.length := ⟨_, rfl⟩
  have Hn := Lib.hid hn
  rw [← hn] at hlen hcap HW ⊢
  clear h hn hcs hN
  go_enter Tryz.func14, Tryz.ntmps14
  go_wp2_with fail
  go_loopw [8] (fun i wr => ∃ (k : Nat), i = .int .i64 k ∧ k ≤ n ∧ Hid (∀ i, i < k → F i ∧ M i ∧ T i) ∧ Hid (w.grownBy wr none)) (fun i _ => n - (intOf i).toNat)
  case atStart => exact ⟨0, rfl, by omega, Lib.hid (fun i hi => by omega), Lib.hid (grown_refl6 _ _)⟩
  case round =>
    obtain ⟨k, rfl, hk, E, KR⟩ := hrel
    by_cases hlt : k < n
    · obtain ⟨b, off, rfl, _, c0, c1, c2⟩ := (H.out.keep KR.out (by simp)).at (i := k) (by rw [← Hn.out]; exact hlt)
      have HX := Lib.hid (HW.out k hlt)
      have Next : Hid (Verd6 (F k) (M k) (T k) 0 → ∀ i, i < k + 1 → F i ∧ M i ∧ T i) := Lib.hid fun hv i hi => by
        by_cases e : i = k
        · subst e
          rcases hv with ⟨h1, h2, h3, _⟩ | ⟨_, h⟩ | ⟨_, _, h⟩ | ⟨_, _, _, h⟩
          · exact ⟨h1, h2, h3⟩
          all_goals omega
        · exact E.out i (by omega)
      have Stop : Hid (∀ c, c ≠ 0 → Verd6 (F k) (M k) (T k) c → Flaw6 F M T n k c) := Lib.hid fun c hc hv => by
        refine ⟨hlt, E.out, ?_⟩
        rcases hv with ⟨_, _, _, h⟩ | ⟨h1, h⟩ | ⟨h1, h2, h⟩ | ⟨h1, h2, h3, h⟩
        · exact absurd h hc
        · exact .inl ⟨h1, h⟩
        · exact .inr (.inl ⟨h1, h2, h⟩)
        · exact .inr (.inr ⟨h1, h2, h3, h⟩)
      clear HW E
      generalize l.getD k default = x at *
      obtain ⟨xn, xa, xc, xl, xk⟩ := x
      simp only at c0 c1 c2 HX
      generalize xl.length = xm at *
      have j0 : (k : Int) ≤ cap := by omega
      go_wp2_with fail
      go_region_with (go_at_call 29; (with_reducible refine (HX.out _ (by first | exact KR.out | exact grown_drew6 KR.out)).mono ?_); rintro e w4 ⟨⟨c, hv4, rfl⟩, hg4⟩; have K4 := Lib.hid hg4; have HV := Lib.hid hv4; clear hv4)
      all_goals
        by_cases hc : c = 0
        · subst hc
          have hnext := Lib.hid (Next.out HV.out)
          go_wp2_with fail
          go_roundw
          case rel => exact ⟨k + 1, by go_num, by omega, hnext, Lib.hid ((grown_drew6 KR.out).trans K4.out)⟩
          case measure => simp [intOf]; omega
        · have hstop := Lib.hid (Stop.out c hc HV.out)
          have hc' : (c != 0) = true := by simpa using hc
          clear hc
          go_wp2_with fail
          go_ret2
          exact ⟨.inr ⟨_, _, hstop.out, rfl⟩, (grown_drew6 KR.out).trans K4.out⟩
    · obtain rfl : k = n := by omega
      go_wp2_with fail
      go_ret2
      exact ⟨.inl ⟨E.out, rfl⟩, KR.out⟩
end Go.Proofs.YtjaclmoobfeikaaGreatDoor
namespace Go.Proofs.YtjaclmoobfeikaaGreatDoor
open Go.RowKit
/-- An address without a part, or none. -/
def PlA (a : Option Addr) : Prop := a = none ∨ ∃ g off, a = some ⟨g, off, none⟩
theorem win_plA {sz : Nat} {w : World} {a : Option Addr} {cap n : Nat} {xs : List Value} (h : Win sz w a cap n xs) (hc : cap ≠ 0) : PlA a := by
  obtain ⟨g, off, e, _⟩ := h.mem.resolve_left hc
  exact .inr ⟨g, off, e⟩
theorem run_append_winA {sl e : TypeId} {z : Value} {sz by' : Nat} (E : ElT sl e z sz by') {w : World} {a : Option Addr} {cap n : Nat} {xs : List Value} (h : Win sz w a cap n xs)
    (A : Option Addr) (m c : Nat) (news : List Value) (hA : A = none → m = 0) (hnl : news.length = m * sz) (hn : n + m ≤ 1000000) (hnews : ∀ ad, A = some ad → ∀ j u, news[j]? = some u → w.cell? (ad.add j) = some u) (h1 : ∀ u ∈ news, u.oneCell' = true) (ty : TypeId) :
    ∃ a' cap' w', (Builtin.append_ #[sl, sl] ty #[.slice a n cap, .slice A m c]).run Tryz.prog w = .ok (.slice a' (n + m) cap') w' ∧ Win sz w' a' cap' (n + m) (xs ++ news) ∧ Only (bk a) w w' ∧ (∀ k, bk a' k → bk a k ∨ w.heap.size ≤ k) ∧ (PlA a → PlA a') := by
  by_cases hcap : cap = 0
  · subst hcap
    obtain ⟨i0, hi, hz0, hz1, hz2⟩ := E.inf
    have hlen := h.len
    have hpos := E.pos
    have hby := E.few
    have hle := h.le
    obtain rfl : n = 0 := by omega
    have hxs : xs = [] := List.eq_nil_of_length_eq_zero (by omega)
    subst hxs
    have hmx : 0 + m ≤ maxLen := by unfold maxLen; omega
    have hbb : (0 + m) * by' ≤ 140737488355328 := by
      have : (0 + m) * by' ≤ 1000000 * 256 := Nat.mul_le_mul hn hby
      omega
    have fin : ∀ v' w', (Builtin.append_ #[sl, sl] ty #[.slice a 0 0, .slice A m c]).run Tryz.prog w = .ok v' w' → w'.ownsRow w.heap.size e sz v' (0 + m) ([] ++ news) → w.grownBy w' none → ∃ a' cap' w', (Builtin.append_ #[sl, sl] ty #[.slice a 0 0, .slice A m c]).run Tryz.prog w = .ok (.slice a' (0 + m) cap') w' ∧ Win sz w' a' cap' (0 + m) ([] ++ news) ∧ Only (bk a) w w' ∧ (∀ k, bk a' k → bk a k ∨ w.heap.size ≤ k) ∧ (PlA a → PlA a') := by
      intro v' w' hr ho hg
      obtain ⟨a', cap', rfl, hw, hb⟩ := own_win ho
      refine ⟨a', cap', w', hr, hw, .of_none hg, fun k hk => .inr (World.ownsRow.lt ho k (hb k hk)).1, fun _ => ?_⟩
      rcases ho.2 with ⟨e, _⟩ | ⟨g, cap, cur, e, _⟩
      · simp only [Value.slice.injEq] at e; exact .inl e.1
      · simp only [Value.slice.injEq] at e; exact .inr ⟨_, _, e.1⟩
    cases A with
    | none =>
      obtain rfl := hA rfl
      obtain rfl : news = [] := List.eq_nil_of_length_eq_zero (by omega)
      refine ⟨a, 0, w, ?_, by simpa using h, Only.refl _ w, fun k hk => .inl hk, id⟩
      cases a <;> simp [Builtin.append_, run_underlying E.und, sizeOf, typeInfo, hi, Builtin.lenOf, Builtin.firstCells, storeCells]
    | some ad =>
      cases a with
      | none =>
        obtain ⟨v', w', hrun, r1, r2, _⟩ := run_append_own (P := Tryz.prog) w w.heap.size sl ty e i0 z sz by' E.und hi hz0 hz1 hz2 E.zc hpos (.slice none 0 0) 0 [] (World.ownsRow_nil w _ _ sz) ad m c news hnl (hnews ad rfl) h1 hmx hbb (Nat.le_refl _)
        exact fin v' w' hrun r1 ⟨r2.os, r2.tape, r2.output, r2.size, fun k hk _ => r2.block k hk (by simp [Value.ownBlock])⟩
      | some a' =>
        by_cases hm : m = 0
        · subst hm
          obtain rfl : news = [] := List.eq_nil_of_length_eq_zero (by omega)
          refine ⟨some a', 0, w, ?_, by simpa using h, Only.refl _ w, fun k hk => .inl hk, id⟩
          have hf := run_firstCells_some (P := Tryz.prog) w i0.size 0 ad 0 c [] (by simp) (by simp)
          simp [Builtin.append_, run_underlying E.und, sizeOf, typeInfo, hi, Builtin.lenOf, hf, storeCells]
        · obtain ⟨v', w', hrun, r1, r2⟩ := run_append_arg_grows (P := Tryz.prog) w sl ty e i0 z sz by' E.und hi hz0 hz1 hz2 E.zc hpos a' 0 0 [] (by simp) (by intro _ _ h'; simp at h') ad m c news hnl (hnews ad rfl) (by omega) hmx hbb
          exact fin v' w' hrun r1 r2
  · obtain ⟨a', cap', w', h2, h3, h4, h5, h6⟩ := run_append_winM E h hcap A m c news hA hnl hn hnews h1 ty
    exact ⟨a', cap', w', h2, h3, h4, h5, fun _ => win_plA h3 h6⟩
/-- At an operation that is next. -/
theorem wp_append_winA {o : Oper} {act : Act} {K : Act → World → Prop} {Q : Exit → Act → World → Prop} {w : World} (s x : Operand) {sl e : TypeId} {z : Value} {sz by' : Nat} (E : ElT sl e z sz by')
    (ho : o.op = .call { callee := .builtin .append, args := #[s, x], argTypes := #[sl, sl] })
    {a : Option Addr} {cap n : Nat} {xs : List Value} (h : Win sz w a cap n xs)
    (hs : act.eval s = .slice a n cap) (A : Option Addr) (m c : Nat) (hx : act.eval x = .slice A m c) (news : List Value) (hA : A = none → m = 0) (hnl : news.length = m * sz) (hn : n + m ≤ 1000000) (hnews : ∀ ad, A = some ad → ∀ j u, news[j]? = some u → w.cell? (ad.add j) = some u) (h1 : ∀ u ∈ news, u.oneCell' = true)
    (hk : ∀ a' cap' w', Win sz w' a' cap' (n + m) (xs ++ news) → Only (bk a) w w' → (∀ k, bk a' k → bk a k ∨ w.heap.size ≤ k) → (PlA a → PlA a') → K (act.put o.dst (.slice a' (n + m) cap')) w') :
    Oper.wp Tryz.prog o act w K Q := by
  obtain ⟨a', cap', w', hr, h2, h3, h4, h5⟩ := run_append_winA E h A m c news hA hnl hn hnews h1 o.type
  unfold Oper.wp execOp
  simp only [ho, resolve, invoke, builtin, Sem.run_bind, Sem.run_pure, Result.andThen_ok, List.map_toArray, List.map_cons, List.map_nil, hs, hx, hr]
  exact hk a' cap' w' h2 h3 h4 h5
end Go.Proofs.YtjaclmoobfeikaaGreatDoor
namespace Go.Proofs.YtjaclmoobfeikaaGreatDoor
open Go.RowKit

def Itm.likeP (p : Bool) (x y : Itm) : Prop := x.agg = y.agg ∧ x.col = y.col ∧ (p = true → x.pos = y.pos)
set_option maxHeartbeats 3200000 in
theorem refItems_any (p : Bool) (S : Nat → Prop) (a a' : Ptr) (cap cap' : Nat) (l m : List Itm) (w : World) (h : CellsS S w a (l.flatMap Itm.c)) (h' : CellsS S w a' (m.flatMap Itm.c)) (hl : l.length ≤ 1000000) :
    Calls Tryz.prog 17 #[.slice a l.length cap, .slice a' m.length cap', .bool p] w fun e w' => BoolIs (l.length = m.length ∧ ∀ i, i < l.length → Itm.likeP p (l.getD i default) (m.getD i default)) e ∧ w.grownBy w' none := by
  by_cases hll : l.length = m.length
  · have H := Lib.hid h
    have H' := Lib.hid h'
    have HL := Lib.hid hll
    rw [← hll]
    obtain ⟨n, hn⟩ : ∃ n, n = l.length := ⟨_, rfl⟩
    have Hn := Lib.hid hn
    rw [← hn] at hl ⊢
    clear h h' hll hn
    cases p with
    | true =>
      go_enter Tryz.func17, Tryz.ntmps17
      go_wp2_with fail
      go_loopw [15] (fun i wr => ∃ (k : Nat), i = .int .i64 k ∧ k ≤ n ∧ Hid (∀ j, j < k → Itm.likeP true (l.getD j default) (m.getD j default)) ∧ Hid (w.grownBy wr none)) (fun i _ => n - (intOf i).toNat)
      case atStart => exact ⟨0, rfl, by omega, Lib.hid (fun i hi => by omega), Lib.hid (grown_reflX _ _)⟩
      case round =>
        obtain ⟨k, rfl, hk, E, K⟩ := hrel
        by_cases hlt : k < n
        · obtain ⟨b, off, rfl, _, hb, hc⟩ := (H.out.keep (.of K.out)).elem Itm.c_len (by decide) (i := k) (by rw [← Hn.out]; exact hlt)
          obtain ⟨b', off', rfl, _, hb', hc'⟩ := (H'.out.keep (.of K.out)).elem Itm.c_len (by decide) (i := k) (by rw [← HL.out, ← Hn.out]; exact hlt)
          obtain ⟨x, hx⟩ : ∃ x, x = l.getD k default := ⟨_, rfl⟩
          obtain ⟨y, hy⟩ : ∃ y, y = m.getD k default := ⟨_, rfl⟩
          rw [← hx] at hc
          rw [← hy] at hc'
          have E2 : Hid (Itm.likeP true x y → ∀ j, j < k + 1 → Itm.likeP true (l.getD j default) (m.getD j default)) := Lib.hid fun h j hj => by
            by_cases e : j = k
            · rw [e, ← hx, ← hy]; exact h
            · exact E.out j (by omega)
          have E3 : Hid (¬ Itm.likeP true x y → ¬ ∀ j, j < n → Itm.likeP true (l.getD j default) (m.getD j default)) := Lib.hid fun h hA => h (by
            have := hA k hlt
            rwa [← hx, ← hy] at this)
          clear hx hy
          obtain ⟨xa, xc, xp⟩ := x
          obtain ⟨ya, yc, yp⟩ := y
          have c0 := hc 0 _ rfl
          have d0 := hc' 0 _ rfl
          have c1 := hc 1 _ rfl
          have d1 := hc' 1 _ rfl
          have c2 := hc 2 _ rfl
          have d2 := hc' 2 _ rfl
          clear hc hc'
          rw [Nat.add_zero] at c0 d0
          by_cases h1 : xa = ya
          · subst h1
            by_cases h2 : xc = yc
            · subst h2
              by_cases h3 : xp = yp
              · subst h3
                go_wp2_with fail
                go_quiet (fail)
                go_wp2_with fail
                go_roundw
                case rel => exact ⟨k + 1, by go_num, by omega, Lib.hid (E2.out (by simp [Itm.likeP])), Lib.hid (grown_drewNT K.out _)⟩
                case measure => simp [intOf]; omega
              · have e3 := nat_eqf h3
                have e3' : ((xp : Int) != (yp : Int)) = true := by rw [bne_iff_ne]; omega
                have HN := Lib.hid h3
                clear h3
                go_wp2_with fail
                go_quiet (fail)
                go_wp2_with fail
                go_ret
                exact ⟨⟨false, rfl, by
                  constructor
                  · intro h; cases h
                  · intro h; exact absurd h.2 (E3.out (by simp [Itm.likeP, HN.out]))⟩, grown_drewNT K.out _⟩
            · have e2 := str_ne h2
              have HN := Lib.hid h2
              clear h2
              go_wp2_with fail
              go_quiet (fail)
              go_wp2_with fail
              go_ret
              exact ⟨⟨false, rfl, by
                constructor
                · intro h; cases h
                · intro h; exact absurd h.2 (E3.out (by simp [Itm.likeP, HN.out]))⟩, grown_drewNT K.out _⟩
          · have e1 := nat_eqf h1
            have e1' : ((xa : Int) != (ya : Int)) = true := by rw [bne_iff_ne]; omega
            have HN := Lib.hid h1
            clear h1
            go_wp2_with fail
            go_quiet (fail)
            go_wp2_with fail
            go_ret
            exact ⟨⟨false, rfl, by
              constructor
              · intro h; cases h
              · intro h; exact absurd h.2 (E3.out (by simp [Itm.likeP, HN.out]))⟩, grown_drewNT K.out _⟩
        · obtain rfl : k = n := by omega
          go_wp2_with fail
          go_ret
          exact ⟨⟨true, rfl, by
            constructor
            · intro _; exact ⟨by first | trivial | rfl, E.out⟩
            · intro _; rfl⟩, K.out⟩
    | false =>
      go_enter Tryz.func17, Tryz.ntmps17
      go_wp2_with fail
      go_loopw [15] (fun i wr => ∃ (k : Nat), i = .int .i64 k ∧ k ≤ n ∧ Hid (∀ j, j < k → Itm.likeP false (l.getD j default) (m.getD j default)) ∧ Hid (w.grownBy wr none)) (fun i _ => n - (intOf i).toNat)
      case atStart => exact ⟨0, rfl, by omega, Lib.hid (fun i hi => by omega), Lib.hid (grown_reflX _ _)⟩
      case round =>
        obtain ⟨k, rfl, hk, E, K⟩ := hrel
        by_cases hlt : k < n
        · obtain ⟨b, off, rfl, _, hb, hc⟩ := (H.out.keep (.of K.out)).elem Itm.c_len (by decide) (i := k) (by rw [← Hn.out]; exact hlt)
          obtain ⟨b', off', rfl, _, hb', hc'⟩ := (H'.out.keep (.of K.out)).elem Itm.c_len (by decide) (i := k) (by rw [← HL.out, ← Hn.out]; exact hlt)
          obtain ⟨x, hx⟩ : ∃ x, x = l.getD k default := ⟨_, rfl⟩
          obtain ⟨y, hy⟩ : ∃ y, y = m.getD k default := ⟨_, rfl⟩
          rw [← hx] at hc
          rw [← hy] at hc'
          have E2 : Hid (Itm.likeP false x y → ∀ j, j < k + 1 → Itm.likeP false (l.getD j default) (m.getD j default)) := Lib.hid fun h j hj => by
            by_cases e : j = k
            · rw [e, ← hx, ← hy]; exact h
            · exact E.out j (by omega)
          have E3 : Hid (¬ Itm.likeP false x y → ¬ ∀ j, j < n → Itm.likeP false (l.getD j default) (m.getD j default)) := Lib.hid fun h hA => h (by
            have := hA k hlt
            rwa [← hx, ← hy] at this)
          clear hx hy
          obtain ⟨xa, xc, xp⟩ := x
          obtain ⟨ya, yc, yp⟩ := y
          have c0 := hc 0 _ rfl
          have d0 := hc' 0 _ rfl
          have c1 := hc 1 _ rfl
          have d1 := hc' 1 _ rfl
          have c2 := hc 2 _ rfl
          have d2 := hc' 2 _ rfl
          clear hc hc'
          rw [Nat.add_zero] at c0 d0
          by_cases h1 : xa = ya
          · subst h1
            by_cases h2 : xc = yc
            · subst h2
              go_wp2_with fail
              go_quiet (fail)
              go_wp2_with fail
              go_roundw
              case rel => exact ⟨k + 1, by go_num, by omega, Lib.hid (E2.out (by simp [Itm.likeP])), Lib.hid (grown_drewNT K.out _)⟩
              case measure => simp [intOf]; omega
            · have e2 := str_ne h2
              have HN := Lib.hid h2
              clear h2
              go_wp2_with fail
              go_quiet (fail)
              go_wp2_with fail
              go_ret
              exact ⟨⟨false, rfl, by
                constructor
                · intro h; cases h
                · intro h; exact absurd h.2 (E3.out (by simp [Itm.likeP, HN.out]))⟩, grown_drewNT K.out _⟩
          · have e1 := nat_eqf h1
            have e1' : ((xa : Int) != (ya : Int)) = true := by rw [bne_iff_ne]; omega
            have HN := Lib.hid h1
            clear h1
            go_wp2_with fail
            go_quiet (fail)
            go_wp2_with fail
            go_ret
            exact ⟨⟨false, rfl, by
              constructor
              · intro h; cases h
              · intro h; exact absurd h.2 (E3.out (by simp [Itm.likeP, HN.out]))⟩, grown_drewNT K.out _⟩
        · obtain rfl : k = n := by omega
          go_wp2_with fail
          go_ret
          exact ⟨⟨true, rfl, by
            constructor
            · intro _; exact ⟨by first | trivial | rfl, E.out⟩
            · intro _; rfl⟩, K.out⟩
  · have hd : ((l.length : Int) != (m.length : Int)) = true := by rw [bne_iff_ne]; omega
    have HN := Lib.hid hll
    clear h h' hll hl
    generalize l.length = n1 at *
    generalize m.length = n2 at *
    go_enter Tryz.func17, Tryz.ntmps17
    go_wp2_with fail
    go_ret
    exact ⟨⟨false, rfl, by simp [HN.out]⟩, grown_reflX _ _⟩
end Go.Proofs.YtjaclmoobfeikaaGreatDoor
namespace Go.Proofs.YtjaclmoobfeikaaGreatDoor
open Go.RowKit

theorem ns_mem : ∀ {l : List Pm} {i : Nat}, i < l.length → (l.getD i default).n ≤ Pm.ns l
  | x :: r, 0, _ => by rw [Pm.ns]; simp [List.getD]
  | x :: r, i + 1, h => by
    have := ns_mem (l := r) (i := i) (by simpa using h)
    rw [Pm.ns]
    simp only [List.getD, List.getElem?_cons_succ] at this ⊢
    omega
theorem map_z_iff (p : Bool) : ∀ l m : List Pm, l.map (Pm.z p) = m.map (Pm.z p) ↔ l.length = m.length ∧ ∀ i, i < l.length → (l.getD i default).z p = (m.getD i default).z p
  | [], [] => by simp
  | [], _ :: _ => by simp
  | _ :: _, [] => by simp
  | x :: l, y :: m => by
    rw [List.map_cons, List.map_cons, List.cons.injEq, map_z_iff p l m]
    constructor
    · rintro ⟨h1, h2, h3⟩
      refine ⟨by simp [h2], fun i hi => ?_⟩
      cases i with
      | zero => exact h1
      | succ i => exact h3 i (by simpa using hi)
    · rintro ⟨h2, h3⟩
      exact ⟨h3 0 (by simp), by simpa using h2, fun i hi => h3 (i + 1) (by simpa using hi)⟩
end Go.Proofs.YtjaclmoobfeikaaGreatDoor
namespace Go.Proofs.YtjaclmoobfeikaaGreatDoor
open Go.RowKit

set_option maxRecDepth 100000 in
set_option maxHeartbeats 12800000 in
theorem refSamePred_true (S : Nat → Prop) : ∀ (N : Nat) (x y : Pm) (w : World), x.n ≤ N → x.n ≤ 1000 → PmS S w x → PmS S w y →
    Calls Tryz.prog 18 #[.agg x.c.toArray, .agg y.c.toArray, .bool true] w fun e w' => BoolIs (x.z true = y.z true) e ∧ w.grownBy w' none
  | 0, .mk _ _ _ _ _ _ _ _ _ _ _ _, _, _, hN, _, _, _ => by simp [Pm.n] at hN
  | N + 1, x, y, w, hN, hK, hx, hy => by
    have HZ := Lib.hid (Pm.z_eq true x y)
    have HIH := Lib.hid (fun i (hi : i < x.kids.length) (h' : x.kids.length = y.kids.length) W (hW : w.grownBy W none) => refSamePred_true S N (x.kids.getD i default) (y.kids.getD i default) W (by
      have := ns_mem hi
      rw [Pm.n_eq] at hN
      omega) (by
      have := ns_mem hi
      rw [Pm.n_eq] at hK
      omega) (((PmSs_iff x.kids).1 (by cases x; exact hx.2.2.2.2) _ (by rw [List.getD, List.getElem?_eq_getElem hi]; exact List.getElem_mem hi)).keep (.of hW)) (((PmSs_iff y.kids).1 (by cases y; exact hy.2.2.2.2) _ (by rw [List.getD, List.getElem?_eq_getElem (show i < y.kids.length by omega)]; exact List.getElem_mem (show i < y.kids.length by omega))).keep (.of hW)))
    have hks : x.kids.length ≤ 1000 := by
      have h0 : ∀ l : List Pm, l.length ≤ Pm.ns l := fun l => by
        induction l with
        | nil => simp
        | cons x r ih => rw [List.length_cons, Pm.ns, Pm.n_eq]; omega
      have := h0 x.kids
      rw [Pm.n_eq] at hK
      omega
    obtain ⟨k1, c1, r1, ⟨vk1, vn1, vs1⟩, o1, la1, lc1, l1, ka1, kc1, ks1, p1⟩ := x
    obtain ⟨k2, c2, r2, ⟨vk2, vn2, vs2⟩, o2, la2, lc2, l2, ka2, kc2, ks2, p2⟩ := y
    simp only [Pm.kids] at HIH hks HZ
    have HQ := Lib.hid (fun W (hW : w.grownBy W none) => refSame_any la1 la2 lc1 lc2 l1 l2 W ((hx.keep (.of hW)).1.row) ((hy.keep (.of hW)).1.row))
    have HC1 := Lib.hid (fun W (hW : w.grownBy W none) => (hx.keep (.of hW)).2.2.1)
    have HC2 := Lib.hid (fun W (hW : w.grownBy W none) => (hy.keep (.of hW)).2.2.1)
    show Calls Tryz.prog 18 #[.agg #[.int .i64 (k1 : Nat), .string c1, .int .i64 (r1 : Nat), .int .i64 vk1, .int .i64 vn1, .string vs1, .string o1, .slice la1 l1.length lc1, .slice ka1 ks1.length kc1, .int .i64 (p1 : Nat)], .agg #[.int .i64 (k2 : Nat), .string c2, .int .i64 (r2 : Nat), .int .i64 vk2, .int .i64 vn2, .string vs2, .string o2, .slice la2 l2.length lc2, .slice ka2 ks2.length kc2, .int .i64 (p2 : Nat)], .bool true] w _
    have HL : Hid (∀ b : Bool, (b = true ↔ (k1 = k2 ∧ c1 = c2 ∧ r1 = r2 ∧ vk1 = vk2 ∧ vn1 = vn2 ∧ vs1 = vs2 ∧ o1 = o2 ∧ l1 = l2 ∧ (true = true → p1 = p2)) ∧ ks1.length = ks2.length ∧ ∀ i, i < ks1.length → (ks1.getD i default).z true = (ks2.getD i default).z true) → (b = true ↔ (.mk k1 c1 r1 ⟨vk1, vn1, vs1⟩ o1 la1 lc1 l1 ka1 kc1 ks1 p1 : Pm).z true = (.mk k2 c2 r2 ⟨vk2, vn2, vs2⟩ o2 la2 lc2 l2 ka2 kc2 ks2 p2 : Pm).z true)) := Lib.hid (fun b h => by
      rw [h, HZ.out, map_z_iff]
      simp only [Pm.like, Vl.mk.injEq, and_assoc])
    generalize (.mk k1 c1 r1 ⟨vk1, vn1, vs1⟩ o1 la1 lc1 l1 ka1 kc1 ks1 p1 : Pm).z true = zx at *
    generalize (.mk k2 c2 r2 ⟨vk2, vn2, vs2⟩ o2 la2 lc2 l2 ka2 kc2 ks2 p2 : Pm).z true = zy at *
    obtain ⟨LZ, hLZ⟩ : ∃ P : Prop, P = (zx = zy) := ⟨_, rfl⟩
    rw [← hLZ] at HL ⊢
    have HR : Hid ((rowsOrd l1 l2 == 0) = true ↔ l1 = l2) := Lib.hid (by rw [beq_iff_eq]; exact ro_zero l1 l2)
    generalize (rowsOrd l1 l2 == 0) = rb at *
    obtain ⟨EL, hEL⟩ : ∃ P : Prop, P = (l1 = l2) := ⟨_, rfl⟩
    rw [← hEL] at HL HR
    clear hLZ hEL hx hy HZ hN hK
    generalize l1.length = n1 at *
    generalize l2.length = n2 at *
    obtain ⟨m1, hm1⟩ : ∃ m, m = ks1.length := ⟨_, rfl⟩
    obtain ⟨m2, hm2⟩ : ∃ m, m = ks2.length := ⟨_, rfl⟩
    have HM := Lib.hid (And.intro hm1 hm2)
    rw [← hm1] at hks ⊢
    rw [← hm2]
    rw [← hm1, ← hm2] at HL
    clear hm1 hm2
    have B1 := heap_alloc_new w (.cells #[.int .i64 (k1 : Nat), .string c1, .int .i64 (r1 : Nat), .int .i64 vk1, .int .i64 vn1, .string vs1, .string o1, .slice la1 n1 lc1, .slice ka1 m1 kc1, .int .i64 (p1 : Nat)] 33)
    have B2 := heap_alloc_new (w.alloc (.cells #[.int .i64 (k1 : Nat), .string c1, .int .i64 (r1 : Nat), .int .i64 vk1, .int .i64 vn1, .string vs1, .string o1, .slice la1 n1 lc1, .slice ka1 m1 kc1, .int .i64 (p1 : Nat)] 33)) (.cells #[.int .i64 (k2 : Nat), .string c2, .int .i64 (r2 : Nat), .int .i64 vk2, .int .i64 vn2, .string vs2, .string o2, .slice la2 n2 lc2, .slice ka2 m2 kc2, .int .i64 (p2 : Nat)] 33)
    have hs1 : (w.alloc (.cells #[.int .i64 (k1 : Nat), .string c1, .int .i64 (r1 : Nat), .int .i64 vk1, .int .i64 vn1, .string vs1, .string o1, .slice la1 n1 lc1, .slice ka1 m1 kc1, .int .i64 (p1 : Nat)] 33)).heap.size = w.heap.size + 1 := by simp
    rw [hs1] at B2
    have g1 := World.grownBy_alloc (w.alloc (.cells #[.int .i64 (k1 : Nat), .string c1, .int .i64 (r1 : Nat), .int .i64 vk1, .int .i64 vn1, .string vs1, .string o1, .slice la1 n1 lc1, .slice ka1 m1 kc1, .int .i64 (p1 : Nat)] 33)) (.cells #[.int .i64 (k2 : Nat), .string c2, .int .i64 (r2 : Nat), .int .i64 vk2, .int .i64 vn2, .string vs2, .string o2, .slice la2 n2 lc2, .slice ka2 m2 kc2, .int .i64 (p2 : Nat)] 33) none
    have K0 := Lib.hid ((World.grownBy_alloc w (.cells #[.int .i64 (k1 : Nat), .string c1, .int .i64 (r1 : Nat), .int .i64 vk1, .int .i64 vn1, .string vs1, .string o1, .slice la1 n1 lc1, .slice ka1 m1 kc1, .int .i64 (p1 : Nat)] 33) none).trans g1)
    have B1 := Lib.hid (blk_grown g1 B1)
    have B2 := Lib.hid B2
    obtain ⟨b0, b1, b2, b3, b4, b5, b6, b7, b8, b9⟩ := cells10 B1.out
    obtain ⟨d0, d1, d2, d3, d4, d5, d6, d7, d8, d9⟩ := cells10 B2.out
    clear g1 hs1
    by_cases h0 : k1 = k2
    · subst h0
      by_cases h1 : c1 = c2
      · subst h1
        by_cases h2 : r1 = r2
        · subst h2
          by_cases h3 : vk1 = vk2
          · subst h3
            by_cases h4 : vn1 = vn2
            · subst h4
              by_cases h5 : vs1 = vs2
              · subst h5
                by_cases h6 : o1 = o2
                · subst h6
                  by_cases h7 : m1 = m2
                  · subst h7
                    go_enter Tryz.func18, Tryz.ntmps18
                    go_wp2_with fail
                    refine (HQ.out _ K0.out).mono ?_
                    rintro e w2 ⟨rfl, hb⟩
                    have K2 := Lib.hid (K0.out.trans (grown_belowX hb none))
                    have V1 := Lib.hid (blk_grown (grown_belowX hb none) B1.out)
                    have V2 := Lib.hid (blk_grown (grown_belowX hb none) B2.out)
                    clear hb b0 b1 b2 b3 b4 b5 b6 b7 b8 b9 d0 d1 d2 d3 d4 d5 d6 d7 d8 d9 B1 B2
                    obtain ⟨b0, b1, b2, b3, b4, b5, b6, b7, b8, b9⟩ := cells10 V1.out
                    obtain ⟨d0, d1, d2, d3, d4, d5, d6, d7, d8, d9⟩ := cells10 V2.out
                    cases rb with
                    | false =>
                      have HN : Hid (¬ EL) := Lib.hid (fun h => by have := HR.out.2 h; cases this)
                      go_wp2_with fail
                      go_ret
                      exact ⟨⟨false, rfl, HL.out _ (by simp [HN.out])⟩, K2.out⟩
                    | true =>
                      have HEL : Hid EL := Lib.hid (HR.out.1 rfl)
                      by_cases hp : p1 = p2
                      · subst hp
                        go_wp2_with fail
                        have GB := Lib.hid (grown_reflX w2 none)
                        clear b0 b1 b2 b3 b4 b5 b6 b7 b8 b9 d0 d1 d2 d3 d4 d5 d6 d7 d8 d9
                        go_loopw [71] (fun i wr => ∃ (j : Nat), i = .int .i64 j ∧ j ≤ m1 ∧ Hid (∀ q, q < j → (ks1.getD q default).z true = (ks2.getD q default).z true) ∧ Hid (w2.grownBy wr none)) (fun i _ => m1 - (intOf i).toNat)
                        case atStart => exact ⟨0, rfl, by omega, Lib.hid (fun i hi => by omega), GB⟩
                        case round =>
                          obtain ⟨j, rfl, hj, E, K⟩ := hrel
                          by_cases hlt : j < m1
                          · obtain ⟨b, off, rfl, _, hb, hc⟩ := (HC1.out wr (K2.out.trans K.out)).elem Pm.c_len (by decide) (i := j) (by rw [← HM.out.1]; exact hlt)
                            obtain ⟨b', off', rfl, _, hb', hc'⟩ := (HC2.out wr (K2.out.trans K.out)).elem Pm.c_len (by decide) (i := j) (by rw [← HM.out.2]; exact hlt)
                            have HI1 := Lib.hid (fun W (hW : wr.grownBy W none) => HIH.out j (by rw [← HM.out.1]; exact hlt) (by rw [← HM.out.1, ← HM.out.2]) W ((K2.out.trans K.out).trans hW))
                            have E2 : Hid ((ks1.getD j default).z true = (ks2.getD j default).z true → ∀ q, q < j + 1 → (ks1.getD q default).z true = (ks2.getD q default).z true) := Lib.hid fun h q hq => by
                              by_cases e : q = j
                              · rw [e]; exact h
                              · exact E.out q (by omega)
                            have E3 : Hid (¬ (ks1.getD j default).z true = (ks2.getD j default).z true → ¬ ∀ q, q < m1 → (ks1.getD q default).z true = (ks2.getD q default).z true) := Lib.hid fun h hA => h (hA j hlt)
                            have KB1 := cells10 (blk_grown K.out V1.out)
                            have KB2 := cells10 (blk_grown K.out V2.out)
                            have b8 := KB1.2.2.2.2.2.2.2.2.1
                            have d8 := KB2.2.2.2.2.2.2.2.2.1
                            clear KB1 KB2
                            generalize ks1.getD j default = X at *
                            generalize ks2.getD j default = Y at *
                            obtain ⟨xk, xc, xr, xv, xo, xla, xlc, xl, xka, xkc, xks, xp⟩ := X
                            obtain ⟨yk, yc, yr, yv, yo, yla, ylc, yl, yka, ykc, yks, yp⟩ := Y
                            have x0 := hc 0 _ rfl
                            have x1 := hc 1 _ rfl
                            have x2 := hc 2 _ rfl
                            have x3 := hc 3 _ rfl
                            have x4 := hc 4 _ rfl
                            have x5 := hc 5 _ rfl
                            have x6 := hc 6 _ rfl
                            have x7 := hc 7 _ rfl
                            have x8 := hc 8 _ rfl
                            have x9 := hc 9 _ rfl
                            have y0 := hc' 0 _ rfl
                            have y1 := hc' 1 _ rfl
                            have y2 := hc' 2 _ rfl
                            have y3 := hc' 3 _ rfl
                            have y4 := hc' 4 _ rfl
                            have y5 := hc' 5 _ rfl
                            have y6 := hc' 6 _ rfl
                            have y7 := hc' 7 _ rfl
                            have y8 := hc' 8 _ rfl
                            have y9 := hc' 9 _ rfl
                            clear hc hc'
                            rw [Nat.add_zero] at x0 y0
                            have HI1 : Hid (∀ W, wr.grownBy W none → Calls Tryz.prog 18 #[.agg #[.int .i64 (xk : Nat), .string xc, .int .i64 (xr : Nat), .int .i64 xv.k, .int .i64 xv.n, .string xv.s, .string xo, .slice xla xl.length xlc, .slice xka xks.length xkc, .int .i64 (xp : Nat)], .agg #[.int .i64 (yk : Nat), .string yc, .int .i64 (yr : Nat), .int .i64 yv.k, .int .i64 yv.n, .string yv.s, .string yo, .slice yla yl.length ylc, .slice yka yks.length ykc, .int .i64 (yp : Nat)], .bool true] W fun e w' => BoolIs _ e ∧ W.grownBy w' none) := HI1
                            go_wp2_with fail
                            go_region_with (go_at_call 18; (with_reducible refine (HI1.out _ (grown_drewT (grown_reflX _ _))).mono ?_); rintro e w3 ⟨⟨r, rfl, hr⟩, hg⟩; have R := Lib.hid hr; have G3 := Lib.hid ((grown_drewT (grown_reflX wr none)).trans hg); clear hr hg x0 x1 x2 x3 x4 x5 x6 x7 x8 x9 y0 y1 y2 y3 y4 y5 y6 y7 y8 y9)
                            all_goals
                              cases r with
                              | true =>
                                go_wp2_with fail
                                go_roundw
                                case rel => exact ⟨j + 1, by go_num, by omega, Lib.hid (E2.out (R.out.1 (by first | rfl | trivial))), Lib.hid (K.out.trans G3.out)⟩
                                case measure => simp [intOf]; omega
                              | false =>
                                go_wp2_with fail
                                go_ret
                                exact ⟨⟨false, rfl, HL.out _ (by
                                  constructor
                                  · intro h; cases h
                                  · intro h; exact absurd h.2.2 (E3.out (fun h2 => by have := R.out.2 h2; cases this)))⟩, K2.out.trans (K.out.trans G3.out)⟩
                          · obtain rfl : m1 = j := by omega
                            go_wp2_with fail
                            go_ret
                            exact ⟨⟨true, rfl, HL.out _ (by
                              constructor
                              · intro _; exact ⟨by simp [HEL.out], by first | rfl | trivial, E.out⟩
                              · intro _; first | rfl | trivial)⟩, K2.out.trans K.out⟩
                      · have e := nat_eqf hp
                        have f : ((p1 : Int) != (p2 : Int)) = true := by rw [bne_iff_ne]; omega
                        have HN := Lib.hid hp
                        clear hp
                        go_wp2_with fail
                        go_ret
                        exact ⟨⟨false, rfl, HL.out _ (by simp [HN.out])⟩, K2.out⟩
                  · have e7 := nat_eqf h7
                    have f7 : ((m1 : Int) != (m2 : Int)) = true := by rw [bne_iff_ne]; omega
                    have HN := Lib.hid h7
                    clear h7
                    go_enter Tryz.func18, Tryz.ntmps18
                    go_wp2_with fail
                    go_ret
                    exact ⟨⟨false, rfl, HL.out _ (by simp [HN.out])⟩, K0.out⟩
                · have e6 := str_ne h6
                  have HN := Lib.hid h6
                  clear h6
                  go_enter Tryz.func18, Tryz.ntmps18
                  go_wp2_with fail
                  go_ret
                  exact ⟨⟨false, rfl, HL.out _ (by simp [HN.out])⟩, K0.out⟩
              · have e5 := str_ne h5
                have HN := Lib.hid h5
                clear h5
                go_enter Tryz.func18, Tryz.ntmps18
                go_wp2_with fail
                go_ret
                exact ⟨⟨false, rfl, HL.out _ (by simp [HN.out])⟩, K0.out⟩
            · have e4 := int_eqf h4
              have f4 : (vn1 != vn2) = true := by rw [bne_iff_ne]; exact h4
              have HN := Lib.hid h4
              clear h4
              go_enter Tryz.func18, Tryz.ntmps18
              go_wp2_with fail
              go_ret
              exact ⟨⟨false, rfl, HL.out _ (by simp [HN.out])⟩, K0.out⟩
          · have e3 := int_eqf h3
            have f3 : (vk1 != vk2) = true := by rw [bne_iff_ne]; exact h3
            have HN := Lib.hid h3
            clear h3
            go_enter Tryz.func18, Tryz.ntmps18
            go_wp2_with fail
            go_ret
            exact ⟨⟨false, rfl, HL.out _ (by simp [HN.out])⟩, K0.out⟩
        · have e2 := nat_eqf h2
          have f2 : ((r1 : Int) != (r2 : Int)) = true := by rw [bne_iff_ne]; omega
          have HN := Lib.hid h2
          clear h2
          go_enter Tryz.func18, Tryz.ntmps18
          go_wp2_with fail
          go_ret
          exact ⟨⟨false, rfl, HL.out _ (by simp [HN.out])⟩, K0.out⟩
      · have e1 := str_ne h1
        have HN := Lib.hid h1
        clear h1
        go_enter Tryz.func18, Tryz.ntmps18
        go_wp2_with fail
        go_ret
        exact ⟨⟨false, rfl, HL.out _ (by simp [HN.out])⟩, K0.out⟩
    · have e0 := nat_eqf h0
      have f0 : ((k1 : Int) != (k2 : Int)) = true := by rw [bne_iff_ne]; omega
      have HN := Lib.hid h0
      clear h0
      go_enter Tryz.func18, Tryz.ntmps18
      go_wp2_with fail
      go_ret
      exact ⟨⟨false, rfl, HL.out _ (by simp [HN.out])⟩, K0.out⟩
end Go.Proofs.YtjaclmoobfeikaaGreatDoor
namespace Go.Proofs.YtjaclmoobfeikaaGreatDoor
open Go.RowKit

theorem one_itsM {W : World} {g : Nat} {x : Itm} (hb : W.heap[g]? = some (.cells #[.int .i64 x.agg, .string x.col, .int .i64 x.pos] 65 (0, 0))) : CellsS (fun _ => True) W (some ⟨g, 0, Option.none⟩) ([x].flatMap Itm.c) := by
  refine .inr ⟨g, 0, rfl, trivial, (Array.getElem?_eq_some_iff.1 hb).1, fun j u hj => ?_⟩
  rw [Nat.zero_add, cell_of_row _ _ j _ _ _ hb]
  simpa [Itm.c] using hj
theorem BoolIs.yes {P : Prop} {e : Ending} (h : BoolIs P e) (hp : P) : e = .returned (.bool true) := by
  obtain ⟨b, rfl, hb⟩ := h
  rw [hb.2 hp]
theorem itsM_same (l : List Itm) : l.length = l.length ∧ ∀ i, i < l.length → Itm.likeP true (l.getD i default) (l.getD i default) := ⟨rfl, fun i _ => by simp [Itm.likeP]⟩
set_option maxRecDepth 100000 in
set_option maxHeartbeats 12800000 in
theorem refSame_one (S : Nat → Prop) (x y : Qm) (w : World) (he : x.e = y.e) (hx : QmS S w x) (hy : QmS S w y) (hn : x.cond.n ≤ 1000) (hl : x.items.length ≤ 1000000 ∧ x.group.length ≤ 1000000 ∧ x.order.length ≤ 1000000) :
    Calls Tryz.prog 9 #[.agg x.c, .agg y.c, .bool true] w fun e w' => e = .returned (.bool true) ∧ w.grownBy w' none := by
  obtain ⟨ia1, ic1, its1, al1, ta1, ⟨k1, c1, rr1, v1, o1, la1, lc1, li1, ka1, kc1, ks1, pp1⟩, ga1, gc1, gr1, oa1, oc1, od1, lim1⟩ := x
  obtain ⟨ia2, ic2, its2, al2, ta2, ⟨k2, c2, rr2, v2, o2, la2, lc2, li2, ka2, kc2, ks2, pp2⟩, ga2, gc2, gr2, oa2, oc2, od2, lim2⟩ := y
  have hne : ((.mk k1 c1 rr1 v1 o1 la1 lc1 li1 ka1 kc1 ks1 pp1 : Pm) : Pm).n = ((.mk k2 c2 rr2 v2 o2 la2 lc2 li2 ka2 kc2 ks2 pp2 : Pm) : Pm).n := by
    rw [Pm.n_e, Pm.n_e]
    have := congrArg Qry.cond he
    exact congrArg Prd.n this
  have hz : ((.mk k1 c1 rr1 v1 o1 la1 lc1 li1 ka1 kc1 ks1 pp1 : Pm) : Pm).z true = ((.mk k2 c2 rr2 v2 o2 la2 lc2 li2 ka2 kc2 ks2 pp2 : Pm) : Pm).z true := congrArg Qry.cond he
  simp only [Qm.e, Qry.mk.injEq] at he
  obtain ⟨rfl, rfl, rfl, _, rfl, rfl, rfl⟩ := he
  have HI : Hid (∀ W, w.grownBy W none → Calls Tryz.prog 17 #[.slice ia1 its1.length ic1, .slice ia2 its1.length ic2, .bool true] W fun e w' => e = .returned (.bool true) ∧ W.grownBy w' none) := Lib.hid (fun W hW => (refItems_any true S ia1 ia2 ic1 ic2 its1 its1 W (hx.1.1.keep (.of hW)) (hy.1.1.keep (.of hW)) hl.1).mono fun e w' h => ⟨h.1.yes (itsM_same its1), h.2⟩)
  have HG : Hid (∀ W, w.grownBy W none → Calls Tryz.prog 17 #[.slice ga1 gr1.length gc1, .slice ga2 gr1.length gc2, .bool true] W fun e w' => e = .returned (.bool true) ∧ W.grownBy w' none) := Lib.hid (fun W hW => (refItems_any true S ga1 ga2 gc1 gc2 gr1 gr1 W (hx.2.2.1.1.keep (.of hW)) (hy.2.2.1.1.keep (.of hW)) hl.2.1).mono fun e w' h => ⟨h.1.yes (itsM_same gr1), h.2⟩)
  have HS : Hid (∀ W, w.grownBy W none → Calls Tryz.prog 18 #[.agg #[.int .i64 (k1 : Nat), .string c1, .int .i64 (rr1 : Nat), .int .i64 v1.k, .int .i64 v1.n, .string v1.s, .string o1, .slice la1 li1.length lc1, .slice ka1 ks1.length kc1, .int .i64 (pp1 : Nat)], .agg #[.int .i64 (k2 : Nat), .string c2, .int .i64 (rr2 : Nat), .int .i64 v2.k, .int .i64 v2.n, .string v2.s, .string o2, .slice la2 li2.length lc2, .slice ka2 ks2.length kc2, .int .i64 (pp2 : Nat)], .bool true] W fun e w' => e = .returned (.bool true) ∧ W.grownBy w' none) := Lib.hid (fun W hW => (refSamePred_true S 1000 (.mk k1 c1 rr1 v1 o1 la1 lc1 li1 ka1 kc1 ks1 pp1 : Pm) (.mk k2 c2 rr2 v2 o2 la2 lc2 li2 ka2 kc2 ks2 pp2 : Pm) W hn hn (hx.2.1.keep (.of hW)) (hy.2.1.keep (.of hW))).mono fun e w' h => ⟨h.1.yes hz, h.2⟩)
  have HC1 := Lib.hid (fun W (hW : w.grownBy W none) => hx.2.2.2.1.keep (.of hW))
  have HC2 := Lib.hid (fun W (hW : w.grownBy W none) => hy.2.2.2.1.keep (.of hW))
  have hoc1 := hx.2.2.2.2
  have hoc2 := hy.2.2.2.2
  have HP : Hid (∀ (X : Itm) (W : World) (g g' : Nat), W.heap[g]? = some (.cells #[.int .i64 X.agg, .string X.col, .int .i64 X.pos] 65 (0, 0)) → W.heap[g']? = some (.cells #[.int .i64 X.agg, .string X.col, .int .i64 X.pos] 65 (0, 0)) → Calls Tryz.prog 17 #[.slice (some ⟨g, 0, none⟩) 1 1, .slice (some ⟨g', 0, none⟩) 1 1, .bool true] W fun e w' => e = .returned (.bool true) ∧ W.grownBy w' none) := Lib.hid (fun X W g g' h1 h2 => (refItems_any true (fun _ => True) (some ⟨g, 0, none⟩) (some ⟨g', 0, none⟩) 1 1 [X] [X] W (one_itsM h1) (one_itsM h2) (by simp)).mono fun e w' h => ⟨h.1.yes (itsM_same [X]), h.2⟩)
  show Calls Tryz.prog 9 #[.agg #[.slice ia1 its1.length ic1, .bool al1, .string ta1, .int .i64 (k1 : Nat), .string c1, .int .i64 (rr1 : Nat), .int .i64 v1.k, .int .i64 v1.n, .string v1.s, .string o1, .slice la1 li1.length lc1, .slice ka1 ks1.length kc1, .int .i64 (pp1 : Nat), .slice ga1 gr1.length gc1, .slice oa1 od1.length oc1, .int .i64 lim1, .int .i64 0], .agg #[.slice ia2 its1.length ic2, .bool al1, .string ta1, .int .i64 (k2 : Nat), .string c2, .int .i64 (rr2 : Nat), .int .i64 v2.k, .int .i64 v2.n, .string v2.s, .string o2, .slice la2 li2.length lc2, .slice ka2 ks2.length kc2, .int .i64 (pp2 : Nat), .slice ga2 gr1.length gc2, .slice oa2 od1.length oc2, .int .i64 lim1, .int .i64 0], .bool true] w _
  simp only at hoc1 hoc2
  have hod := hl.2.2
  simp only at hod
  clear hx hy hn hl hne hz
  obtain ⟨n8, hn8⟩ : ∃ m, m = od1.length := ⟨_, rfl⟩
  have HM := Lib.hid hn8
  rw [← hn8] at hod hoc1 hoc2 ⊢
  clear hn8
  generalize its1.length = n0 at *
  generalize li1.length = n2 at *
  generalize li2.length = n3 at *
  generalize ks1.length = n4 at *
  generalize ks2.length = n5 at *
  generalize gr1.length = n6 at *
  have B1 := heap_alloc_new w (.cells #[.slice ia1 n0 ic1, .bool al1, .string ta1, .int .i64 (k1 : Nat), .string c1, .int .i64 (rr1 : Nat), .int .i64 v1.k, .int .i64 v1.n, .string v1.s, .string o1, .slice la1 n2 lc1, .slice ka1 n4 kc1, .int .i64 (pp1 : Nat), .slice ga1 n6 gc1, .slice oa1 n8 oc1, .int .i64 lim1, .int .i64 0] 36)
  have B2 := heap_alloc_new (w.alloc (.cells #[.slice ia1 n0 ic1, .bool al1, .string ta1, .int .i64 (k1 : Nat), .string c1, .int .i64 (rr1 : Nat), .int .i64 v1.k, .int .i64 v1.n, .string v1.s, .string o1, .slice la1 n2 lc1, .slice ka1 n4 kc1, .int .i64 (pp1 : Nat), .slice ga1 n6 gc1, .slice oa1 n8 oc1, .int .i64 lim1, .int .i64 0] 36)) (.cells #[.slice ia2 n0 ic2, .bool al1, .string ta1, .int .i64 (k2 : Nat), .string c2, .int .i64 (rr2 : Nat), .int .i64 v2.k, .int .i64 v2.n, .string v2.s, .string o2, .slice la2 n3 lc2, .slice ka2 n5 kc2, .int .i64 (pp2 : Nat), .slice ga2 n6 gc2, .slice oa2 n8 oc2, .int .i64 lim1, .int .i64 0] 36)
  have hs1 : (w.alloc (.cells #[.slice ia1 n0 ic1, .bool al1, .string ta1, .int .i64 (k1 : Nat), .string c1, .int .i64 (rr1 : Nat), .int .i64 v1.k, .int .i64 v1.n, .string v1.s, .string o1, .slice la1 n2 lc1, .slice ka1 n4 kc1, .int .i64 (pp1 : Nat), .slice ga1 n6 gc1, .slice oa1 n8 oc1, .int .i64 lim1, .int .i64 0] 36)).heap.size = w.heap.size + 1 := by simp
  rw [hs1] at B2
  have g1 := World.grownBy_alloc (w.alloc (.cells #[.slice ia1 n0 ic1, .bool al1, .string ta1, .int .i64 (k1 : Nat), .string c1, .int .i64 (rr1 : Nat), .int .i64 v1.k, .int .i64 v1.n, .string v1.s, .string o1, .slice la1 n2 lc1, .slice ka1 n4 kc1, .int .i64 (pp1 : Nat), .slice ga1 n6 gc1, .slice oa1 n8 oc1, .int .i64 lim1, .int .i64 0] 36)) (.cells #[.slice ia2 n0 ic2, .bool al1, .string ta1, .int .i64 (k2 : Nat), .string c2, .int .i64 (rr2 : Nat), .int .i64 v2.k, .int .i64 v2.n, .string v2.s, .string o2, .slice la2 n3 lc2, .slice ka2 n5 kc2, .int .i64 (pp2 : Nat), .slice ga2 n6 gc2, .slice oa2 n8 oc2, .int .i64 lim1, .int .i64 0] 36) none
  have K0 := Lib.hid ((World.grownBy_alloc w (.cells #[.slice ia1 n0 ic1, .bool al1, .string ta1, .int .i64 (k1 : Nat), .string c1, .int .i64 (rr1 : Nat), .int .i64 v1.k, .int .i64 v1.n, .string v1.s, .string o1, .slice la1 n2 lc1, .slice ka1 n4 kc1, .int .i64 (pp1 : Nat), .slice ga1 n6 gc1, .slice oa1 n8 oc1, .int .i64 lim1, .int .i64 0] 36) none).trans g1)
  have V0 := Lib.hid (blk_grown g1 B1)
  have U0 := Lib.hid B2
  clear g1 hs1 B1 B2
  obtain ⟨a0, a1, a2, a3, a4, a5, a6, a7, a8, a9, a10, a11, a12, a13, a14, a15, a16⟩ := cells17 V0.out
  obtain ⟨d0, d1, d2, d3, d4, d5, d6, d7, d8, d9, d10, d11, d12, d13, d14, d15, d16⟩ := cells17 U0.out
  go_enter Tryz.func9, Tryz.ntmps9
  go_wp2_with fail
  refine (HI.out _ K0.out).mono ?_
  rintro e w2 ⟨rfl, hg⟩
  have K1 := Lib.hid (K0.out.trans hg)
  have V1 := Lib.hid (blk_grown hg V0.out)
  have U1 := Lib.hid (blk_grown hg U0.out)
  clear a0 a1 a2 a3 a4 a5 a6 a7 a8 a9 a10 a11 a12 a13 a14 a15 a16 d0 d1 d2 d3 d4 d5 d6 d7 d8 d9 d10 d11 d12 d13 d14 d15 d16
  clear hg
  obtain ⟨a0, a1, a2, a3, a4, a5, a6, a7, a8, a9, a10, a11, a12, a13, a14, a15, a16⟩ := cells17 V1.out
  obtain ⟨d0, d1, d2, d3, d4, d5, d6, d7, d8, d9, d10, d11, d12, d13, d14, d15, d16⟩ := cells17 U1.out
  go_wp2_with fail
  refine (HG.out _ K1.out).mono ?_
  rintro e w3 ⟨rfl, hg⟩
  have K2 := Lib.hid (K1.out.trans hg)
  have V2 := Lib.hid (blk_grown hg V1.out)
  have U2 := Lib.hid (blk_grown hg U1.out)
  clear a0 a1 a2 a3 a4 a5 a6 a7 a8 a9 a10 a11 a12 a13 a14 a15 a16 d0 d1 d2 d3 d4 d5 d6 d7 d8 d9 d10 d11 d12 d13 d14 d15 d16
  clear hg
  obtain ⟨a0, a1, a2, a3, a4, a5, a6, a7, a8, a9, a10, a11, a12, a13, a14, a15, a16⟩ := cells17 V2.out
  obtain ⟨d0, d1, d2, d3, d4, d5, d6, d7, d8, d9, d10, d11, d12, d13, d14, d15, d16⟩ := cells17 U2.out
  go_wp2_with fail
  refine (HS.out _ K2.out).mono ?_
  rintro e w4 ⟨rfl, hg⟩
  have K3 := Lib.hid (K2.out.trans hg)
  have V3 := Lib.hid (blk_grown hg V2.out)
  have U3 := Lib.hid (blk_grown hg U2.out)
  clear a0 a1 a2 a3 a4 a5 a6 a7 a8 a9 a10 a11 a12 a13 a14 a15 a16 d0 d1 d2 d3 d4 d5 d6 d7 d8 d9 d10 d11 d12 d13 d14 d15 d16
  clear hg
  obtain ⟨a0, a1, a2, a3, a4, a5, a6, a7, a8, a9, a10, a11, a12, a13, a14, a15, a16⟩ := cells17 V3.out
  obtain ⟨d0, d1, d2, d3, d4, d5, d6, d7, d8, d9, d10, d11, d12, d13, d14, d15, d16⟩ := cells17 U3.out
  go_wp2_with fail
  have GB := Lib.hid (grown_reflX w4 none)
  clear a0 a1 a2 a3 a4 a5 a6 a7 a8 a9 a10 a11 a12 a13 a14 a15 a16 d0 d1 d2 d3 d4 d5 d6 d7 d8 d9 d10 d11 d12 d13 d14 d15 d16
  go_loopw [66] (fun i wr => ∃ (j : Nat), i = .int .i64 j ∧ j ≤ n8 ∧ Hid (w4.grownBy wr none)) (fun i _ => n8 - (intOf i).toNat)
  case atStart => exact ⟨0, rfl, by omega, GB⟩
  case round =>
    obtain ⟨j, rfl, hj, K⟩ := hrel
    by_cases hlt : j < n8
    · obtain ⟨b, off, rfl, _, hb, hc⟩ := (HC1.out wr (K3.out.trans K.out)).elem Kyo.c_len (by decide) (i := j) (by rw [← HM.out]; exact hlt)
      obtain ⟨b', off', rfl, _, hb', hc'⟩ := (HC2.out wr (K3.out.trans K.out)).elem Kyo.c_len (by decide) (i := j) (by rw [← HM.out]; exact hlt)
      obtain ⟨_, _, _, _, _, _, _, _, _, _, _, _, _, _, a14, _, _⟩ := cells17 (blk_grown K.out V3.out)
      obtain ⟨_, _, _, _, _, _, _, _, _, _, _, _, _, _, d14, _, _⟩ := cells17 (blk_grown K.out U3.out)
      generalize od1.getD j default = X at *
      have HPj := Lib.hid (HP.out X.item)
      obtain ⟨⟨xa, xc, xp⟩, xd⟩ := X
      have x0 := hc 0 _ rfl
      have x1 := hc 1 _ rfl
      have x2 := hc 2 _ rfl
      have x3 := hc 3 _ rfl
      have y0 := hc' 0 _ rfl
      have y1 := hc' 1 _ rfl
      have y2 := hc' 2 _ rfl
      have y3 := hc' 3 _ rfl
      clear hc hc'
      rw [Nat.add_zero] at x0 y0
      have i0 : (0 : Int) ≤ j := by omega
      have i1 : (j : Int) < n8 := by omega
      have i2 : (j : Int) < oc1 := by omega
      have i3 : (j : Int) < oc2 := by omega
      have O1 := Lib.hid (blk_grown (World.grownBy_alloc (wr.alloc (.cells #[.int .i64 (xa : Nat), .string xc, .int .i64 (xp : Nat)] 65)) (.cells #[.int .i64 (xa : Nat), .string xc, .int .i64 (xp : Nat)] 65) none) (heap_alloc_new wr (.cells #[.int .i64 (xa : Nat), .string xc, .int .i64 (xp : Nat)] 65)))
      have O2 := heap_alloc_new (wr.alloc (.cells #[.int .i64 (xa : Nat), .string xc, .int .i64 (xp : Nat)] 65)) (.cells #[.int .i64 (xa : Nat), .string xc, .int .i64 (xp : Nat)] 65)
      have s1 : (wr.alloc (.cells #[.int .i64 (xa : Nat), .string xc, .int .i64 (xp : Nat)] 65)).heap.size = wr.heap.size + 1 := by simp
      rw [s1] at O2
      have O2 := Lib.hid O2
      clear s1
      go_wp2_with fail
      refine wp_region_held_drew (S := (fun W => Hid (wr.grownBy W none))) (by kernel_rfl) (Lib.hid (grown_drewT (grown_reflX _ _))) (fun hHeld => ?_)
      refine wpAnyH_take (i := 0) (v := ?v0z1) rfl (by kernel_rfl) (by kernel_rfl) (by kernel_rfl) (fun _ _ _ h => h) (Or.inl ⟨by rfl, ?y0z1⟩) (by assumption) ?r0z1
      case y0z1 => (intro w hSw; (try dsimp only at hSw); go_simp; try with_reducible rfl)
      simp only [Act.put, List.getElem_toArray, List.getElem_cons_zero, List.size_toArray, List.length_cons, List.length_nil, Nat.reduceAdd, Array.replicate, List.replicate, List.setIfInBounds_toArray, List.set_cons_zero, List.set_cons_succ]
      refine wpAnyH_take (i := 1) (v := ?v1z2) rfl (by kernel_rfl) (by kernel_rfl) (by kernel_rfl) (fun _ _ _ h => h) (Or.inl ⟨by rfl, ?y1z2⟩) (by assumption) ?r1z2
      case y1z2 => (intro w hSw; have h0 := hSw.out.cell a14 (by simp); clear hSw; go_simp; try with_reducible rfl)
      simp only [Act.put, List.getElem_toArray, List.getElem_cons_succ, List.getElem_cons_zero, List.setIfInBounds_toArray, List.set_cons_zero, List.set_cons_succ]
      refine wpAnyH_take (i := 2) (v := ?v2z3) rfl (by kernel_rfl) (by kernel_rfl) (by kernel_rfl) (fun _ _ _ h => h) (Or.inl ⟨by rfl, ?y2z3⟩) (by assumption) ?r2z3
      case y2z3 => (intro w hSw; (try dsimp only at hSw); go_simp; try with_reducible rfl)
      simp only [Act.put, List.getElem_toArray, List.getElem_cons_succ, List.getElem_cons_zero, List.setIfInBounds_toArray, List.set_cons_zero, List.set_cons_succ]
      refine wpAnyH_take (i := 3) (v := ?v3z4) rfl (by kernel_rfl) (by kernel_rfl) (by kernel_rfl) (fun _ _ _ h => h) (Or.inl ⟨by rfl, ?y3z4⟩) (by assumption) ?r3z4
      case y3z4 => (intro w hSw; (try dsimp only at hSw); go_simp; try with_reducible rfl)
      simp only [Act.put, List.getElem_toArray, List.getElem_cons_succ, List.getElem_cons_zero, List.setIfInBounds_toArray, List.set_cons_zero, List.set_cons_succ]
      refine wpAnyH_take (i := 4) (v := ?v4z5) rfl (by kernel_rfl) (by kernel_rfl) (by kernel_rfl) (fun _ _ _ h => h) (Or.inl ⟨by rfl, ?y4z5⟩) (by assumption) ?r4z5
      case y4z5 => (intro w hSw; (try dsimp only at hSw); go_simp; try with_reducible rfl)
      simp only [Act.put, List.getElem_toArray, List.getElem_cons_succ, List.getElem_cons_zero, List.setIfInBounds_toArray, List.set_cons_zero, List.set_cons_succ]
      refine wpAnyH_take (i := 5) (v := ?v5z6) rfl (by kernel_rfl) (by kernel_rfl) (by kernel_rfl) (fun _ _ _ h => h) (Or.inl ⟨by rfl, ?y5z6⟩) (by assumption) ?r5z6
      case y5z6 => (intro w hSw; have h0 := hSw.out.cell x3 (by simp); clear hSw; go_simp; try with_reducible rfl)
      simp only [Act.put, List.getElem_toArray, List.getElem_cons_succ, List.getElem_cons_zero, List.setIfInBounds_toArray, List.set_cons_zero, List.set_cons_succ]
      refine wpAnyH_take (i := 6) (v := ?v6z7) rfl (by kernel_rfl) (by kernel_rfl) (by kernel_rfl) (fun _ _ _ h => h) (Or.inl ⟨by rfl, ?y6z7⟩) (by assumption) ?r6z7
      case y6z7 => (intro w hSw; (try dsimp only at hSw); go_simp; try with_reducible rfl)
      simp only [Act.put, List.getElem_toArray, List.getElem_cons_succ, List.getElem_cons_zero, List.setIfInBounds_toArray, List.set_cons_zero, List.set_cons_succ]
      refine wpAnyH_take (i := 7) (v := ?v7z8) rfl (by kernel_rfl) (by kernel_rfl) (by kernel_rfl) (fun _ _ _ h => h) (Or.inl ⟨by rfl, ?y7z8⟩) (by assumption) ?r7z8
      case y7z8 => (intro w hSw; have h0 := hSw.out.cell d14 (by simp); clear hSw; go_simp; try with_reducible rfl)
      simp only [Act.put, List.getElem_toArray, List.getElem_cons_succ, List.getElem_cons_zero, List.setIfInBounds_toArray, List.set_cons_zero, List.set_cons_succ]
      refine wpAnyH_take (i := 8) (v := ?v8z9) rfl (by kernel_rfl) (by kernel_rfl) (by kernel_rfl) (fun _ _ _ h => h) (Or.inl ⟨by rfl, ?y8z9⟩) (by assumption) ?r8z9
      case y8z9 => (intro w hSw; (try dsimp only at hSw); go_simp; try with_reducible rfl)
      simp only [Act.put, List.getElem_toArray, List.getElem_cons_succ, List.getElem_cons_zero, List.setIfInBounds_toArray, List.set_cons_zero, List.set_cons_succ]
      refine wpAnyH_take (i := 9) (v := ?v9z10) rfl (by kernel_rfl) (by kernel_rfl) (by kernel_rfl) (fun _ _ _ h => h) (Or.inl ⟨by rfl, ?y9z10⟩) (by assumption) ?r9z10
      case y9z10 => (intro w hSw; (try dsimp only at hSw); go_simp; try with_reducible rfl)
      simp only [Act.put, List.getElem_toArray, List.getElem_cons_succ, List.getElem_cons_zero, List.setIfInBounds_toArray, List.set_cons_zero, List.set_cons_succ]
      refine wpAnyH_take (i := 10) (v := ?v10z11) rfl (by kernel_rfl) (by kernel_rfl) (by kernel_rfl) (fun _ _ _ h => h) (Or.inl ⟨by rfl, ?y10z11⟩) (by assumption) ?r10z11
      case y10z11 => (intro w hSw; (try dsimp only at hSw); go_simp; try with_reducible rfl)
      simp only [Act.put, List.getElem_toArray, List.getElem_cons_succ, List.getElem_cons_zero, List.setIfInBounds_toArray, List.set_cons_zero, List.set_cons_succ]
      refine wpAnyH_take (i := 11) (v := ?v11z12) rfl (by kernel_rfl) (by kernel_rfl) (by kernel_rfl) (fun _ _ _ h => h) (Or.inl ⟨by rfl, ?y11z12⟩) (by assumption) ?r11z12
      case y11z12 => (intro w hSw; have h0 := hSw.out.cell y3 (by simp); clear hSw; go_simp; try with_reducible rfl)
      simp only [Act.put, List.getElem_toArray, List.getElem_cons_succ, List.getElem_cons_zero, List.setIfInBounds_toArray, List.set_cons_zero, List.set_cons_succ]
      refine wpAnyH_take (i := 12) (v := ?v12z13) rfl (by kernel_rfl) (by kernel_rfl) (by kernel_rfl) (fun _ _ _ h => h) (Or.inl ⟨by rfl, ?y12z13⟩) (by assumption) ?r12z13
      case y12z13 => (intro w hSw; (try dsimp only at hSw); go_simp; try with_reducible rfl)
      simp only [Act.put, List.getElem_toArray, List.getElem_cons_succ, List.getElem_cons_zero, List.setIfInBounds_toArray, List.set_cons_zero, List.set_cons_succ]
      refine wpAnyH_take (i := 13) (v := ?v13z14) rfl (by kernel_rfl) (by kernel_rfl) (by kernel_rfl) (fun _ _ _ h => h) (Or.inl ⟨by rfl, ?y13z14⟩) (by assumption) ?r13z14
      case y13z14 => (intro w hSw; (try dsimp only at hSw); go_simp; try with_reducible rfl)
      simp only [Act.put, List.getElem_toArray, List.getElem_cons_succ, List.getElem_cons_zero, List.setIfInBounds_toArray, List.set_cons_zero, List.set_cons_succ]
      refine wpAnyH_take (i := 14) (v := ?v14z15) rfl (by kernel_rfl) (by kernel_rfl) (by kernel_rfl) (fun _ _ _ h => h) (Or.inl ⟨by rfl, ?y14z15⟩) (by assumption) ?r14z15
      case y14z15 => (intro w hSw; (try dsimp only at hSw); go_simp; try with_reducible rfl)
      simp only [Act.put, List.getElem_toArray, List.getElem_cons_succ, List.getElem_cons_zero, List.setIfInBounds_toArray, List.set_cons_zero, List.set_cons_succ]
      refine wpAnyH_take (i := 15) (v := ?v15z16) rfl (by kernel_rfl) (by kernel_rfl) (by kernel_rfl) (fun _ _ _ h => h) (Or.inl ⟨by rfl, ?y15z16⟩) (by assumption) ?r15z16
      case y15z16 => (intro w hSw; have h0 := hSw.out.cell a14 (by simp); clear hSw; go_simp; try with_reducible rfl)
      simp only [Act.put, List.getElem_toArray, List.getElem_cons_succ, List.getElem_cons_zero, List.setIfInBounds_toArray, List.set_cons_zero, List.set_cons_succ]
      refine wpAnyH_take (i := 16) (v := ?v16z17) rfl (by kernel_rfl) (by kernel_rfl) (by kernel_rfl) (fun _ _ _ h => h) (Or.inl ⟨by rfl, ?y16z17⟩) (by assumption) ?r16z17
      case y16z17 => (intro w hSw; (try dsimp only at hSw); go_simp; try with_reducible rfl)
      simp only [Act.put, List.getElem_toArray, List.getElem_cons_succ, List.getElem_cons_zero, List.setIfInBounds_toArray, List.set_cons_zero, List.set_cons_succ]
      refine wpAnyH_take (i := 17) (v := ?v17z18) rfl (by kernel_rfl) (by kernel_rfl) (by kernel_rfl) (fun _ _ _ h => h) (Or.inl ⟨by rfl, ?y17z18⟩) (by assumption) ?r17z18
      case y17z18 => (intro w hSw; (try dsimp only at hSw); go_simp; try with_reducible rfl)
      simp only [Act.put, List.getElem_toArray, List.getElem_cons_succ, List.getElem_cons_zero, List.setIfInBounds_toArray, List.set_cons_zero, List.set_cons_succ]
      refine wpAnyH_take (i := 18) (v := ?v18z19) rfl (by kernel_rfl) (by kernel_rfl) (by kernel_rfl) (fun _ _ _ h => h) (Or.inl ⟨by rfl, ?y18z19⟩) (by assumption) ?r18z19
      case y18z19 => (intro w hSw; (try dsimp only at hSw); go_simp; try with_reducible rfl)
      simp only [Act.put, List.getElem_toArray, List.getElem_cons_succ, List.getElem_cons_zero, List.setIfInBounds_toArray, List.set_cons_zero, List.set_cons_succ]
      refine wpAnyH_take (i := 19) (v := ?v19z20) rfl (by kernel_rfl) (by kernel_rfl) (by kernel_rfl) (fun _ _ _ h => h) (Or.inl ⟨by rfl, ?y19z20⟩) (by assumption) ?r19z20
      case y19z20 => (intro w hSw; have h0 := hSw.out.cell x0 (by simp); have h1 := hSw.out.cell x1 (by simp); have h2 := hSw.out.cell x2 (by simp); clear hSw; go_simp; try with_reducible rfl)
      simp only [Act.put, List.getElem_toArray, List.getElem_cons_succ, List.getElem_cons_zero, List.setIfInBounds_toArray, List.set_cons_zero, List.set_cons_succ]
      refine wpAnyH_take (i := 21) (v := ?v21z21) rfl (by kernel_rfl) (by kernel_rfl) (by kernel_rfl) (fun _ _ _ h => h) (Or.inl ⟨by rfl, ?y21z21⟩) (by assumption) ?r21z21
      case y21z21 => (intro w hSw; (try dsimp only at hSw); go_simp; try with_reducible rfl)
      simp only [Act.put, List.getElem_toArray, List.getElem_cons_succ, List.getElem_cons_zero, List.setIfInBounds_toArray, List.set_cons_zero, List.set_cons_succ]
      refine wpAnyH_take (i := 22) (v := ?v22z22) rfl (by kernel_rfl) (by kernel_rfl) (by kernel_rfl) (fun _ _ _ h => h) (Or.inl ⟨by rfl, ?y22z22⟩) (by assumption) ?r22z22
      case y22z22 => (intro w hSw; have h0 := hSw.out.cell d14 (by simp); clear hSw; go_simp; try with_reducible rfl)
      simp only [Act.put, List.getElem_toArray, List.getElem_cons_succ, List.getElem_cons_zero, List.setIfInBounds_toArray, List.set_cons_zero, List.set_cons_succ]
      refine wpAnyH_take (i := 23) (v := ?v23z23) rfl (by kernel_rfl) (by kernel_rfl) (by kernel_rfl) (fun _ _ _ h => h) (Or.inl ⟨by rfl, ?y23z23⟩) (by assumption) ?r23z23
      case y23z23 => (intro w hSw; (try dsimp only at hSw); go_simp; try with_reducible rfl)
      simp only [Act.put, List.getElem_toArray, List.getElem_cons_succ, List.getElem_cons_zero, List.setIfInBounds_toArray, List.set_cons_zero, List.set_cons_succ]
      refine wpAnyH_take (i := 24) (v := ?v24z24) rfl (by kernel_rfl) (by kernel_rfl) (by kernel_rfl) (fun _ _ _ h => h) (Or.inl ⟨by rfl, ?y24z24⟩) (by assumption) ?r24z24
      case y24z24 => (intro w hSw; (try dsimp only at hSw); go_simp; try with_reducible rfl)
      simp only [Act.put, List.getElem_toArray, List.getElem_cons_succ, List.getElem_cons_zero, List.setIfInBounds_toArray, List.set_cons_zero, List.set_cons_succ]
      refine wpAnyH_take (i := 25) (v := ?v25z25) rfl (by kernel_rfl) (by kernel_rfl) (by kernel_rfl) (fun _ _ _ h => h) (Or.inl ⟨by rfl, ?y25z25⟩) (by assumption) ?r25z25
      case y25z25 => (intro w hSw; (try dsimp only at hSw); go_simp; try with_reducible rfl)
      simp only [Act.put, List.getElem_toArray, List.getElem_cons_succ, List.getElem_cons_zero, List.setIfInBounds_toArray, List.set_cons_zero, List.set_cons_succ]
      refine wpAnyH_take (i := 26) (v := ?v26z26) rfl (by kernel_rfl) (by kernel_rfl) (by kernel_rfl) (fun _ _ _ h => h) (Or.inl ⟨by rfl, ?y26z26⟩) (by assumption) ?r26z26
      case y26z26 => (intro w hSw; have h0 := hSw.out.cell y0 (by simp); have h1 := hSw.out.cell y1 (by simp); have h2 := hSw.out.cell y2 (by simp); clear hSw; go_simp; try with_reducible rfl)
      simp only [Act.put, List.getElem_toArray, List.getElem_cons_succ, List.getElem_cons_zero, List.setIfInBounds_toArray, List.set_cons_zero, List.set_cons_succ]
      refine wpAnyH_take (i := 28) (v := ?v28z27) rfl (by kernel_rfl) (by kernel_rfl) (by kernel_rfl) (fun _ _ _ h => h) (Or.inl ⟨by rfl, ?y28z27⟩) (by assumption) ?r28z27
      case y28z27 => (intro w hSw; (try dsimp only at hSw); go_simp; try with_reducible rfl)
      simp only [Act.put, List.getElem_toArray, List.getElem_cons_succ, List.getElem_cons_zero, List.setIfInBounds_toArray, List.set_cons_zero, List.set_cons_succ]
      refine wpAnyH_ready (rs := [20, 27]) (by kernel_rfl) (by simp) ?_
      refine (AllReadyH.cons rfl (fun K' hK => ?_) (AllReadyH.cons rfl (fun K' hK => ?_) AllReadyH.nil))
      · go_simp
        skip
        refine hK.out _ _ (Lib.hid ((grown_drewT (grown_reflX _ _)).trans (World.grownBy_alloc _ _ none))) (fun hHeld => ?_)
        clear hK K'
        simp only [List.setIfInBounds_toArray, List.set_cons_zero, List.set_cons_succ]
        refine wpAnyH_ready (rs := [27]) (by kernel_rfl) (by simp) ?_
        refine AllReadyH.cons rfl (fun K' hK => ?_) AllReadyH.nil
        go_simp
        skip
        refine hK.out _ _ (Lib.hid (((grown_drewT (grown_reflX _ _)).trans (World.grownBy_alloc _ _ none)).trans (World.grownBy_alloc _ _ none))) (fun hHeld => ?_)
        clear hK K'
        simp only [List.setIfInBounds_toArray, List.set_cons_zero, List.set_cons_succ]
        refine wpAnyH_ready (rs := [29]) (by kernel_rfl) (by simp) ?_
        refine AllReadyH.cons rfl (fun K' hK => ?_) AllReadyH.nil
        go_simp
        go_at_call 17
        refine (HPj.out _ _ _ (by exact O1.out) (by exact O2.out)).mono ?_
        rintro e w5 ⟨rfl, hg⟩
        have G3 : Hid (wr.grownBy w5 none) := Lib.hid ((((grown_drewT (grown_reflX _ _)).trans (World.grownBy_alloc _ _ none)).trans (World.grownBy_alloc _ _ none)).trans hg)
        clear hg
        refine hK.out _ _ G3 (fun hHeld => ?_)
        clear hK K'
        simp only [List.setIfInBounds_toArray, List.set_cons_zero, List.set_cons_succ]
        refine wpAnyH_take (i := 30) (v := ?v30z28) rfl (by kernel_rfl) (by kernel_rfl) (by kernel_rfl) (fun _ _ _ h => h) (Or.inl ⟨by rfl, ?y30z28⟩) (by assumption) ?r30z28
        case y30z28 => (intro w hSw; (try dsimp only at hSw); go_simp; try with_reducible rfl)
        simp only [Act.put, List.getElem_toArray, List.getElem_cons_succ, List.getElem_cons_zero, List.setIfInBounds_toArray, List.set_cons_zero, List.set_cons_succ]
        refine wpAnyH_take (i := 31) (v := ?v31z29) rfl (by kernel_rfl) (by kernel_rfl) (by kernel_rfl) (fun _ _ _ h => h) (Or.inl ⟨by rfl, ?y31z29⟩) (by assumption) ?r31z29
        case y31z29 => (intro w hSw; (try dsimp only at hSw); go_simp; try with_reducible rfl)
        simp only [Act.put, List.getElem_toArray, List.getElem_cons_succ, List.getElem_cons_zero, List.setIfInBounds_toArray, List.set_cons_zero, List.set_cons_succ]
        refine wpAnyH_done (by kernel_rfl) ?_ _
        go_wp2_with fail
        go_roundw
        case rel => exact ⟨j + 1, by go_num, by omega, Lib.hid (K.out.trans G3.out)⟩
        case measure => simp [intOf]; omega
      · go_simp
        skip
        refine hK.out _ _ (Lib.hid ((grown_drewT (grown_reflX _ _)).trans (World.grownBy_alloc _ _ none))) (fun hHeld => ?_)
        clear hK K'
        simp only [List.setIfInBounds_toArray, List.set_cons_zero, List.set_cons_succ]
        refine wpAnyH_ready (rs := [20]) (by kernel_rfl) (by simp) ?_
        refine AllReadyH.cons rfl (fun K' hK => ?_) AllReadyH.nil
        go_simp
        skip
        refine hK.out _ _ (Lib.hid (((grown_drewT (grown_reflX _ _)).trans (World.grownBy_alloc _ _ none)).trans (World.grownBy_alloc _ _ none))) (fun hHeld => ?_)
        clear hK K'
        simp only [List.setIfInBounds_toArray, List.set_cons_zero, List.set_cons_succ]
        refine wpAnyH_ready (rs := [29]) (by kernel_rfl) (by simp) ?_
        refine AllReadyH.cons rfl (fun K' hK => ?_) AllReadyH.nil
        go_simp
        go_at_call 17
        refine (HPj.out _ _ _ (by exact O2.out) (by exact O1.out)).mono ?_
        rintro e w5 ⟨rfl, hg⟩
        have G3 : Hid (wr.grownBy w5 none) := Lib.hid ((((grown_drewT (grown_reflX _ _)).trans (World.grownBy_alloc _ _ none)).trans (World.grownBy_alloc _ _ none)).trans hg)
        clear hg
        refine hK.out _ _ G3 (fun hHeld => ?_)
        clear hK K'
        simp only [List.setIfInBounds_toArray, List.set_cons_zero, List.set_cons_succ]
        refine wpAnyH_take (i := 30) (v := ?v30z30) rfl (by kernel_rfl) (by kernel_rfl) (by kernel_rfl) (fun _ _ _ h => h) (Or.inl ⟨by rfl, ?y30z30⟩) (by assumption) ?r30z30
        case y30z30 => (intro w hSw; (try dsimp only at hSw); go_simp; try with_reducible rfl)
        simp only [Act.put, List.getElem_toArray, List.getElem_cons_succ, List.getElem_cons_zero, List.setIfInBounds_toArray, List.set_cons_zero, List.set_cons_succ]
        refine wpAnyH_take (i := 31) (v := ?v31z31) rfl (by kernel_rfl) (by kernel_rfl) (by kernel_rfl) (fun _ _ _ h => h) (Or.inl ⟨by rfl, ?y31z31⟩) (by assumption) ?r31z31
        case y31z31 => (intro w hSw; (try dsimp only at hSw); go_simp; try with_reducible rfl)
        simp only [Act.put, List.getElem_toArray, List.getElem_cons_succ, List.getElem_cons_zero, List.setIfInBounds_toArray, List.set_cons_zero, List.set_cons_succ]
        refine wpAnyH_done (by kernel_rfl) ?_ _
        go_wp2_with fail
        go_roundw
        case rel => exact ⟨j + 1, by go_num, by omega, Lib.hid (K.out.trans G3.out)⟩
        case measure => simp [intOf]; omega
    · obtain rfl : n8 = j := by omega
      obtain ⟨a0, a1, a2, a3, a4, a5, a6, a7, a8, a9, a10, a11, a12, a13, a14, a15, a16⟩ := cells17 (blk_grown K.out V3.out)
      obtain ⟨d0, d1, d2, d3, d4, d5, d6, d7, d8, d9, d10, d11, d12, d13, d14, d15, d16⟩ := cells17 (blk_grown K.out U3.out)
      go_wp2_with fail
      go_ret
      exact ⟨rfl, K3.out.trans K.out⟩
end Go.Proofs.YtjaclmoobfeikaaGreatDoor
namespace Go.Proofs.YtjaclmoobfeikaaGreatDoor
open Go.RowKit

def fewG (l : List Tb) : Bool := decide (l.length ≤ 20) && l.all (fun t => decide (t.l.length ≤ 20))
set_option maxRecDepth 100000 in
set_option maxHeartbeats 1600000 in
theorem fewG_any (a : Option Addr) (cap : Nat) (l : List Tb) (w : World) (h : TabsAt w.heap.size w a l) (hcap : l.length ≤ cap) :
    Calls Tryz.prog 15 #[.slice a l.length cap] w fun e w' => e = .returned (.bool (fewG l)) ∧ w.grownBy w' none := by
  have H := Lib.hid h
  have hn9 := h.1
  obtain ⟨fb, hfb⟩ : ∃ fb, fb = fewG l := ⟨_, rfl⟩
  have HB := Lib.hid hfb
  rw [← hfb]
  clear hfb
  obtain ⟨n, hn⟩ : ∃ n, n = l.length := ⟨_, rfl⟩
  have Hn := Lib.hid hn
  rw [← hn] at hcap hn9 ⊢
  clear h hn
  go_enter Tryz.func15, Tryz.ntmps15
  by_cases h20 : (20 : Int) < n
  · go_wp2_with fail
    go_ret
    exact ⟨ret_bool (by rw [HB.out]; unfold fewG; rw [← Hn.out, show decide (n ≤ 20) = false by simp; omega]; rfl), grown_reflT _ _⟩
  go_wp2_with fail
  go_loopw [10] (fun s10 wr => ∃ j : Nat, s10 = .int .i64 j ∧ j ≤ n ∧ Hid ((∀ i, i < j → (l.getD i default).l.length ≤ 20) ∧ w.grownBy wr none)) (fun s10 _ => n - (intOf s10).toNat)
  case atStart => exact ⟨0, rfl, by omega, Lib.hid ⟨fun i hi => by omega, grown_reflT _ _⟩⟩
  case round =>
    obtain ⟨j, rfl, hj, K⟩ := hrel
    by_cases hlt : j < n
    · obtain ⟨b, off, rfl, _, c0, c1, c2⟩ := (H.out.keep K.out.2 (by simp)).at (i := j) (by rw [← Hn.out]; exact hlt)
      have HX : Hid (∀ q, (l.getD j default).l.length = q → (q ≤ 20 → ∀ i, i < j + 1 → (l.getD i default).l.length ≤ 20) ∧ (20 < q → fewG l = false)) := Lib.hid fun q hq => ⟨fun h i hi => by
        rcases Nat.lt_or_ge i j with e | e
        · exact K.out.1 i e
        · rw [show i = j by omega, hq]; exact h, fun h => by
        unfold fewG
        rw [Bool.and_eq_false_iff]
        right
        rw [List.all_eq_false]
        exact ⟨_, tb_mem (by rw [← Hn.out]; exact hlt), by rw [hq]; simpa using h⟩⟩
      generalize l.getD j default = x at *
      obtain ⟨xn, xa, xc, xl, xk⟩ := x
      simp only at c0 c1 c2 HX
      obtain ⟨xm, hxm⟩ : ∃ xm, xl.length = xm := ⟨_, rfl⟩
      have HX := Lib.hid (HX.out xm hxm)
      rw [hxm] at c1
      clear hxm
      have j0 : (j : Int) ≤ cap := by omega
      have KA := Lib.hid (K.out.2.trans (World.grownBy_alloc wr (.cells #[.string xn, .slice xa xm xc, .int .i64 xk] 44) none))
      by_cases hq : (20 : Int) < xm
      · go_wp2_with fail
        go_ret
        exact ⟨ret_bool (by rw [HB.out]; exact (HX.out.2 (by omega)).symm), KA.out⟩
      · go_wp2_with fail
        go_roundw
        case rel => exact ⟨j + 1, by go_num, by omega, Lib.hid ⟨HX.out.1 (by omega), KA.out⟩⟩
        case measure => simp [intOf]; omega
    · obtain rfl : n = j := by omega
      go_wp2_with fail
      go_ret
      refine ⟨ret_bool ?_, K.out.2⟩
      rw [HB.out]
      unfold fewG
      rw [← Hn.out, show decide (n ≤ 20) = true by simp; omega, Bool.true_and]
      symm
      rw [List.all_eq_true]
      intro t ht
      obtain ⟨i, hi, rfl⟩ := List.getElem_of_mem ht
      have := K.out.1 i (by rw [Hn.out]; exact hi)
      simp only [List.getD, List.getElem?_eq_getElem hi, Option.getD_some] at this
      simpa using this
set_option maxRecDepth 100000 in
theorem goodG_any (a : Option Addr) (cap : Nat) (l : List Tb) (w : World) (h : TabsAt w.heap.size w a l) (hcap : l.length ≤ cap) (hcs : ∀ t ∈ l, t.l.length ≤ t.cap) (hN : ∀ t ∈ l, t.n.size ≤ 9223372036854775807 ∧ ∀ i, i < t.l.length → (t.l.getD i default).n.size ≤ 9223372036854775807) :
    Calls Tryz.prog 7 #[.slice a l.length cap] w fun e w' => (∃ b, e = .returned (.bool b) ∧ (b = true → RightG l ∧ fewG l = true)) ∧ w.grownBy w' none := by
  have HC := Lib.hid (refCheck_all a cap l w h hcap hcs hN)
  have HF := Lib.hid (fun W (hW : w.grownBy W none) => fewG_any a cap l W ((h.keep hW (by simp)).mono hW.size) hcap)
  have HZ : Hid (∀ k y, Flaw6 (FullG l) (MalG l) (TwcG l) l.length k y → y ≠ 0) := Lib.hid fun k y hf => by
    obtain ⟨_, _, hv⟩ := hf
    rcases hv with ⟨_, h⟩ | ⟨_, _, h⟩ | ⟨_, _, _, h⟩ <;> omega
  obtain ⟨fb, hfb⟩ : ∃ fb, fb = fewG l := ⟨_, rfl⟩
  rw [← hfb] at HF ⊢
  generalize RightG l = R at *
  generalize l.length = n at *
  clear h hcap hcs hN hfb
  go_enter Tryz.func7, Tryz.ntmps7
  go_wp2_with fail
  refine (HC.out).mono ?_
  rintro e w2 ⟨h, hg⟩
  have G2 := Lib.hid hg
  clear hg
  rcases h with ⟨hr, rfl⟩ | ⟨k, y, hf, rfl⟩
  · have HR := Lib.hid hr
    clear hr HZ
    go_wp2_with fail
    refine (HF.out _ G2.out).mono ?_
    rintro e w3 ⟨rfl, hg⟩
    have G3 := Lib.hid (G2.out.trans hg)
    clear hg
    go_wp2_with fail
    go_ret
    exact ⟨⟨fb, rfl, fun hb => ⟨HR.out, hb⟩⟩, G3.out⟩
  · have hy := HZ.out k y hf
    have hy0 : (y == 0) = false := by rw [beq_eq_false_iff_ne]; exact hy
    clear hf hy HZ
    go_wp2_with fail
    go_ret
    exact ⟨⟨false, rfl, fun hb => by cases hb⟩, G2.out⟩
/-- A table's cells. -/
def Tb.c (t : Tb) : List Value := [.string t.n, .slice t.a t.l.length t.cap, .int .i64 t.k]
theorem Tb.c_len (t : Tb) : t.c.length = 3 := rfl
theorem tb_ones (l : List Tb) : ∀ u ∈ l.flatMap Tb.c, u.oneCell' = true := by
  intro u hu
  obtain ⟨x, _, hx⟩ := List.mem_flatMap.1 hu
  simp only [Tb.c, List.mem_cons, List.not_mem_nil, or_false] at hx
  rcases hx with rfl | rfl | rfl <;> rfl
theorem tb_infoT : (Tryz.prog.info? 44).map (fun i => (i.zero, i.size, i.bytes)) = some (some (.agg #[.string ⟨#[]⟩, .slice none 0 0, .int .i64 0]), 3, 48) := by kernel_rfl
theorem tb_el : ElT 22 44 (.agg #[.string ⟨#[]⟩, .slice none 0 0, .int .i64 0]) 3 48 := ⟨Tryz.underlying22, info_partsT tb_infoT, by decide, by decide, by decide⟩
theorem tabs_flat {w : World} {a : Option Addr} {l : List Tb} (h : TabsAt w.heap.size w a l) : l = [] ∨ ∃ b off, a = some ⟨b, off, none⟩ ∧ b < w.heap.size ∧ ∀ j u, (l.flatMap Tb.c)[j]? = some u → w.cell? ⟨b, off + j, none⟩ = some u := by
  refine h.2.2.imp id fun ⟨b, off, e, hlt, hc⟩ => ⟨b, off, e, hlt, fun j u hj => ?_⟩
  have hl := flat_len Tb.c 3 Tb.c_len l
  have hj3 : j < l.length * 3 := by rw [← hl]; exact (List.getElem?_eq_some_iff.1 hj).1
  have hi : j / 3 < l.length := by omega
  obtain ⟨h0, h1, h2⟩ := hc (j / 3) hi
  have hx : ∀ q v, (l.getD (j / 3) default).c[q]? = some v → (l.flatMap Tb.c)[j / 3 * 3 + q]? = some v := fun q v hq => flat_at Tb.c 3 Tb.c_len l (j / 3) hi q v hq
  have hr : j % 3 = 0 ∨ j % 3 = 1 ∨ j % 3 = 2 := by omega
  rcases hr with e | e | e
  · have := hx 0 _ rfl
    rw [show j / 3 * 3 + 0 = j by omega, hj] at this
    rw [show off + j = off + j / 3 * 3 by omega, h0]; exact this.symm
  · have := hx 1 _ rfl
    rw [show j / 3 * 3 + 1 = j by omega, hj] at this
    rw [show off + j = off + j / 3 * 3 + 1 by omega, h1]; exact this.symm
  · have := hx 2 _ rfl
    rw [show j / 3 * 3 + 2 = j by omega, hj] at this
    rw [show off + j = off + j / 3 * 3 + 2 by omega, h2]; exact this.symm
theorem tabs_of_cells {w : World} {a : Option Addr} {l : List Tb} (h : CellsS (fun _ => True) w a (l.flatMap Tb.c)) (hl : l.length ≤ 1000) (hc : ∀ t ∈ l, ColsAt w.heap.size w t.a t.l) : TabsAt w.heap.size w a l := by
  refine ⟨by omega, hc, ?_⟩
  rcases h with h | ⟨b, off, e, _, hlt, hcell⟩
  · have := congrArg List.length h
    rw [flat_len Tb.c 3 Tb.c_len, List.length_nil] at this
    exact .inl (List.eq_nil_of_length_eq_zero (by omega))
  · refine .inr ⟨b, off, e, hlt, fun i hi => ?_⟩
    refine ⟨?_, ?_, ?_⟩
    · exact hcell (i * 3) _ (by have := flat_at Tb.c 3 Tb.c_len l i hi 0 _ rfl; rwa [Nat.add_zero] at this)
    · rw [Nat.add_assoc]; exact hcell (i * 3 + 1) _ (flat_at Tb.c 3 Tb.c_len l i hi 1 _ rfl)
    · rw [Nat.add_assoc]; exact hcell (i * 3 + 2) _ (flat_at Tb.c 3 Tb.c_len l i hi 2 _ rfl)
theorem find_or {α : Type} (p : α → Bool) (x y : List α) (h : ∀ a ∈ x, ∀ b ∈ y, p a = true → p b = true → False) : (x ++ y).find? p = (y ++ x).find? p := by
  rw [List.find?_append, List.find?_append]
  cases hx : x.find? p with
  | none => cases y.find? p <;> rfl
  | some a =>
    cases hy : y.find? p with
    | none => rfl
    | some b => exact absurd (h a (List.mem_of_find?_eq_some hx) b (List.mem_of_find?_eq_some hy) (List.find?_some hx) (List.find?_some hy)) (fun e => e)
theorem right_apart {l : List Tb} (h : RightG l) {i j : Nat} (hij : i < j) (hj : j < l.length) : ((l.getD i default).n.toList == (l.getD j default).n.toList) = false := by
  obtain ⟨_, _, ha, _⟩ := h j hj
  have := ha i (by rw [List.length_take]; omega)
  have e : (l.take j).getD i default = l.getD i default := by
    rw [List.getD_eq_getElem?_getD, List.getD_eq_getElem?_getD, List.getElem?_take_of_lt hij]
  rwa [e] at this
/-- The tables in another order are found alike. -/
theorem tabN_turn {l : List Tb} (h : RightG l) (k : Nat) (hk : k ≤ l.length) (M : ByteArray) : tabN (l.drop k ++ l.take k) M = tabN l M := by
  unfold tabN
  have e : l.find? (fun t => t.n.toList == M.toList) = (l.take k ++ l.drop k).find? (fun t => t.n.toList == M.toList) := by rw [List.take_append_drop]
  rw [e]
  refine find_or _ _ _ ?_
  intro x hx y hy px py
  obtain ⟨i, hi, rfl⟩ := List.getElem_of_mem hx
  obtain ⟨j, hj, rfl⟩ := List.getElem_of_mem hy
  simp only [List.getElem_drop, List.getElem_take] at px py
  simp only [List.length_drop, List.length_take] at hi hj
  have ha := right_apart h (i := j) (j := k + i) (by omega) (by omega)
  have e1 : l.getD j default = l[j] := by simp [List.getD, show j < l.length by omega]
  have e2 : l.getD (k + i) default = l[k + i] := by simp [List.getD, show k + i < l.length by omega]
  rw [e1, e2] at ha
  rw [beq_iff_eq] at px py
  rw [px, py] at ha
  simp at ha
theorem ckL_turn {l : List Tb} (h : RightG l) (k : Nat) (hk : k ≤ l.length) (s : ByteArray) : ckL s (l.drop k ++ l.take k) = ckL s l := by
  unfold ckL
  cases parseL s with
  | error e => rfl
  | ok q => simp only [checkE, tabN_turn h k hk]
/-- The tree that is told: none's is empty. -/
def treeE (r : Except (Nat × Nat) Qry) : Qry := match r with
  | .error _ => (Qm.z 0).e
  | .ok q => q
def codeE (r : Except (Nat × Nat) Qry) : Nat × Nat := match r with
  | .error p => p
  | .ok _ => (0, 0)
theorem spelt_table (cs : List Cl) (q : Qry) : (q.spelt cs).table = q.table := by
  unfold Qry.spelt
  split <;> rfl
theorem ckL_alone {l : List Tb} (h : RightG l) (s : ByteArray) {i : Nat} (hi : i < l.length) (ht : (l.getD i default).n = (treeE (ckL s l)).table) : ckL s [l.getD i default] = ckL s l := by
  have hne : (l.getD i default).n ≠ ⟨#[]⟩ := by
    intro e
    have hm := (h i hi).2.1.1
    rw [e] at hm
    revert hm
    decide
  unfold ckL at ht ⊢
  cases hp : parseL s with
  | error e => rfl
  | ok q =>
    rw [hp] at ht
    simp only at ht ⊢
    have hq : (l.getD i default).n = q.table := by
      unfold checkE at ht
      cases hf : tabN l q.table with
      | none => rw [hf] at ht; exact absurd ht hne
      | some t =>
        rw [hf] at ht
        simp only at ht
        cases hr : reviewE t.l q with
        | some e => rw [hr] at ht; exact absurd ht hne
        | none => rw [hr] at ht; simp only [treeE] at ht; rw [ht, spelt_table]
    have h1 : tabN [l.getD i default] q.table = some (l.getD i default) := by
      unfold tabN
      rw [List.find?_cons, hq]
      simp
    have h2 : tabN l q.table = some (l.getD i default) := by
      refine find_at (fun t : Tb => t.n.toList == q.table.toList) l i hi (fun j hj => ?_) (by rw [beq_iff_eq, hq])
      have := right_apart h hj hi
      rwa [hq] at this
    unfold checkE
    rw [h1, h2]
end Go.Proofs.YtjaclmoobfeikaaGreatDoor
namespace Go.Proofs.YtjaclmoobfeikaaGreatDoor
open Go.RowKit

theorem wpList_load_rowG {P : Program} {ops : Array Oper} {rest : List Oper} {o : Oper} {a : Act} {w : World} {Q : Exit → Act → World → Prop} (hgd : Region.wanted o (yielded ops a.tmps) = true) (ty : TypeId) (x : Operand) (ho : o.op = .load ty x)
    (g : Nat) (hx : a.eval x = .pointer (some ⟨g, 0, none⟩)) (t : TypeId) (cs : Array Value) (fr : Nat × Nat) (d : TypeDesc) (hg : w.heap[g]? = some (.cells cs t fr))
    (hu : P.underlying ty = some d) (hd : (match d with | .struct _ | .array _ _ => true | _ => false) = true) (hi : (P.info? ty).map (·.size) = some cs.size)
    (h : wpList P ops Q rest (a.put o.dst (.agg cs)) w) : wpList P ops Q (o :: rest) a w :=
  wpList_step fun _ hK => by rw [if_pos hgd]; exact wp_load_row ty x ho g hx t cs fr d hg hu hd hi (hK _ _ h)
theorem treeE_bounds (s : ByteArray) (l : List Tb) (hs : ∀ t ∈ l, t.l.length ≤ 1000) : (treeE (ckL s l)).cond.n ≤ 1000 ∧ (treeE (ckL s l)).items.length ≤ 1000000 ∧ (treeE (ckL s l)).group.length ≤ 1000000 ∧ (treeE (ckL s l)).order.length ≤ 1000000 := by
  have hz : (treeE (.error (0, 0))).cond.n ≤ 1000 ∧ (treeE (.error (0, 0))).items.length ≤ 1000000 ∧ (treeE (.error (0, 0))).group.length ≤ 1000000 ∧ (treeE (.error (0, 0))).order.length ≤ 1000000 := by
    refine ⟨?_, by decide, by decide, by decide⟩
    show (Pm.e Pm.none).n ≤ 1000
    decide
  unfold ckL
  cases hp : parseL s with
  | error e => exact hz
  | ok q =>
    obtain ⟨b1, b2, b3, b4⟩ := parse_bounds hp
    simp only
    unfold checkE
    cases hf : tabN l q.table with
    | none => exact hz
    | some t =>
      simp only
      cases hr : reviewE t.l q with
      | some e => exact hz
      | none =>
        simp only [treeE]
        have ht : t ∈ l := List.mem_of_find?_eq_some hf
        have := hs t ht
        unfold Qry.spelt
        split
        · exact ⟨b1, by simp; omega, b3, b4⟩
        · exact ⟨b1, b2, b3, b4⟩
theorem lk_uni {s : ByteArray} {l : List Tb} {w w' : World} {e : Ending} (h : LkIs s l w e w') : w.grownBy w' none ∧ ∃ y : Qm, e = .returned (.tuple #[.agg y.c, .int .i64 ((codeE (ckL s l)).1 : Nat), .int .i64 ((codeE (ckL s l)).2 : Nat)]) ∧ y.e = treeE (ckL s l) ∧ QmS (fun j => w.heap.size ≤ j) w' y := by
  refine ⟨h.1, ?_⟩
  rcases h.2 with ⟨p, h1, _, h3⟩ | ⟨y, h1, h2, h3⟩
  · rw [h1]
    exact ⟨Qm.z 0, h3, rfl, ⟨.inl rfl, Nat.le_refl _⟩, PmS.leaf _ _ _ _ _ _ _ _ _ _ _ _, ⟨.inl rfl, Nat.le_refl _⟩, .inl rfl, Nat.le_refl _⟩
  · rw [h1]
    exact ⟨y, h2, rfl, h3⟩
set_option linter.unusedSimpArgs false in
set_option maxRecDepth 100000 in
set_option maxHeartbeats 12800000 in
theorem checkAlone_walk (G G2 : Nat) (n g m l : Addr) (f : Nat → Addr) (s : ByteArray) (a : Option Addr) (cap : Nat) (L : List Tb) (by' : Int) (w : World) (hE : LxEnv G n g m l w) (hF : CkEnv G2 f w) (hs0 : s.size ≤ maxLen)
    (h : TabsAt w.heap.size w a L) (hcap : L.length ≤ cap) (hcs : ∀ t ∈ L, t.l.length ≤ t.cap) (hN : ∀ t ∈ L, t.n.size ≤ 9223372036854775807 ∧ ∀ i, i < t.l.length → (t.l.getD i default).n.size ≤ 9223372036854775807) :
    Calls Tryz.prog 3 #[.string s, .slice a L.length cap, .int .i64 by'] w fun e w' => e = .returned (.bool true) ∧ w.grownBy w' none := by
  have HA := Lib.hid (fun W (hW : w.grownBy W none) => awake12_any G G2 n g m l f W (hE.keep hW) (hF.keep hW))
  have HD := Lib.hid (fun W (hW : w.grownBy W none) => goodG_any a cap L W ((h.keep hW (by simp)).mono hW.size) hcap hcs hN)
  obtain ⟨R, hR⟩ : ∃ R, R = ckL s L := ⟨_, rfl⟩
  have HR := Lib.hid hR
  have HC : Hid (∀ (b : Option Addr) (c : Nat) (T : List Tb) (W : World), w.grownBy W none → TabsAt W.heap.size W b T → (∀ t ∈ T, t.l.length ≤ 1000) → ckL s T = R → Calls Tryz.prog 8 #[.string s, .slice b T.length c] W fun e w' => W.grownBy w' none ∧ ∃ y : Qm, e = .returned (.tuple #[.agg y.c, .int .i64 ((codeE R).1 : Nat), .int .i64 ((codeE R).2 : Nat)]) ∧ y.e = treeE R ∧ QmS (fun j => W.heap.size ≤ j) w' y) := Lib.hid (fun b c T W hW hT hs he => by
    have := lawChecked_any G G2 n g m l f s b c T W hT hs (hE.keep hW) (hF.keep hW)
    refine this.mono fun e w' hl => ?_
    have h2 := lk_uni hl
    rw [he] at h2
    exact h2)
  have hsm : (s.size : Int) ≤ 9223372036854775807 := by have : maxLen ≤ 9223372036854775807 := by unfold maxLen; omega
                                                        omega
  have HT := Lib.hid (fun W (hW : w.grownBy W none) => (h.keep hW (by simp)).mono hW.size)
  have HL := Lib.hid h
  have hn63 := h.1
  obtain ⟨N, hNn⟩ : ∃ N, N = L.length := ⟨_, rfl⟩
  have HNn := Lib.hid hNn
  rw [← hNn] at HD hcap hn63 ⊢
  clear hE hF h hcs hN hNn hR
  by_cases hlong : 1500 < s.size
  · have h1 : (1500 : Int) < s.size := by omega
    clear HD HC hlong
    go_enter Tryz.func3, Tryz.ntmps3
    go_wp2_with fail
    refine (HA.out _ (grown_reflT _ _)).mono ?_
    rintro e w1 ⟨rfl, hg⟩
    have G1 := Lib.hid hg
    clear hg
    go_wp2_with fail
    refine (HA.out _ G1.out).mono ?_
    rintro e u2 ⟨rfl, hg⟩
    have GE := Lib.hid (G1.out.trans hg)
    clear hg
    go_wp2_with fail
    go_ret
    exact ⟨rfl, GE.out⟩
  have h1 : (s.size : Int) ≤ 1500 := by omega
  clear hlong
  go_enter Tryz.func3, Tryz.ntmps3
  go_wp2_with fail
  refine (HA.out _ (grown_reflT _ _)).mono ?_
  rintro e w1 ⟨rfl, hg⟩
  have G1 := Lib.hid hg
  clear hg
  go_wp2_with fail
  refine (HD.out _ G1.out).mono ?_
  rintro e w2' ⟨⟨gb, rfl, hgb⟩, hg⟩
  have G1' := Lib.hid (G1.out.trans hg)
  have HGB := Lib.hid hgb
  clear hg hgb G1
  cases gb with
  | false =>
    clear HC
    go_wp2_with fail
    refine (HA.out _ G1'.out).mono ?_
    rintro e u2 ⟨rfl, hg⟩
    have GE := Lib.hid (G1'.out.trans hg)
    clear hg
    go_wp2_with fail
    go_ret
    exact ⟨rfl, GE.out⟩
  | true =>
  by_cases hN0 : N = 0
  · have h0 : ((N : Int) == 0) = true := by rw [hN0]; rfl
    clear HC hN0
    go_wp2_with fail
    refine (HA.out _ G1'.out).mono ?_
    rintro e u2 ⟨rfl, hg⟩
    have GE := Lib.hid (G1'.out.trans hg)
    clear hg
    go_wp2_with fail
    go_ret
    exact ⟨rfl, GE.out⟩
  have h0 : ((N : Int) == 0) = false := by rw [beq_eq_false_iff_ne]; omega
  obtain ⟨hRight, hFew⟩ := HGB.out rfl
  have hF2 : N ≤ 20 ∧ ∀ t ∈ L, t.l.length ≤ 1000 := by
    unfold fewG at hFew
    rw [Bool.and_eq_true] at hFew
    obtain ⟨q1, q2⟩ := hFew
    have q1 := of_decide_eq_true q1
    rw [List.all_eq_true] at q2
    exact ⟨by rw [HNn.out]; exact q1, fun t ht => by have := of_decide_eq_true (q2 t ht); omega⟩
  obtain ⟨hN20, hcols⟩ := hF2
  have HCol := Lib.hid hcols
  have HRt := Lib.hid hRight
  have HBd := Lib.hid (treeE_bounds s L hcols)
  rw [← HR.out] at HBd
  have HC1 := Lib.hid (HC.out a cap L w2' G1'.out (HT.out w2' G1'.out) hcols HR.out.symm)
  rw [← HNn.out] at HC1
  clear HGB hRight hFew hcols HD HA
  go_wp2_with fail
  refine HC1.out.mono ?_
  rintro e w2 ⟨hg, y1, rfl, hy1, hS1⟩
  have G2' := Lib.hid (G1'.out.trans hg)
  have w2B := Lib.hid (heap_alloc_new w2 (.cells (Qm.z 0).c 36))
  have g3 := grown_thenX (World.grownBy_alloc w2 (.cells (Qm.z 0).c 36) none) (grown_setRow _ w2.heap.size y1.c) (fun j e => by cases e; exact Nat.le_refl _)
  have b3 := setRow_heap _ _ (Qm.z 0).c y1.c _ _ (heap_alloc_new w2 (.cells (Qm.z 0).c 36))
  have HY1 := Lib.hid hy1
  have HS1 := Lib.hid (hS1.keep (.of g3))
  have hw2s := w2'.heap.size
  clear hg hy1 hS1 HC1
  go_upto_region 4 with (refine wpList_store_row rfl 36 (.tmp 7) (.tmp 42) rfl w2.heap.size y1.c rfl rfl 36 (Qm.z 0).c (w2B.out) (by rw [Qm.c_size]; exact query_size) (by rw [Qm.c_size, Qm.c_size]) (Qm.c_all _) ?_)
  change Code.wp _ _ _ _ ((w2.alloc (.cells (Qm.z 0).c 36)).setRow w2.heap.size y1.c)
  have G3 := Lib.hid (G2'.out.trans g3)
  have B3 := Lib.hid b3
  clear g3 b3 w2B
  generalize (w2.alloc (.cells (Qm.z 0).c 36)).setRow w2.heap.size y1.c = w3 at *
  as_aux_lemma =>
  obtain ⟨b0, off, rfl, hb0, _⟩ := HL.out.at (i := 0) (by rw [← HNn.out]; omega)
  go_cut [10] from 20 (fun s10 wx => (∃ k : Nat, s10 = .int .i64 k ∧ k < N) ∧ w3 = wx)
  case first => as_aux_lemma =>
    obtain ⟨k, hk, hkN⟩ : ∃ k : Nat, wrap64 ((IntKind.u64.wrap by').tmod (N : Int)) = (k : Int) ∧ k < N := by
      have hU : 0 ≤ IntKind.u64.wrap by' := by rw [IntKind.wrap_u64]; omega
      have h2 := Int.tmod_nonneg (N : Int) hU
      have h3 := Int.tmod_lt_of_pos (IntKind.u64.wrap by') (show (0 : Int) < N by omega)
      generalize (IntKind.u64.wrap by').tmod (N : Int) = z at *
      exact ⟨z.toNat, by unfold wrap64; omega, by omega⟩
    go_wp2_with fail
    go_meet
    exact ⟨⟨k, by rw [hk], hkN⟩, rfl⟩
  case rest =>
  obtain ⟨⟨k, rfl, hkN⟩, rfl⟩ := hcut
  go_upto_region 5 with fail
  have HLd : Hid (((L.drop k).flatMap Tb.c).length = (N - k) * 3) := Lib.hid (by rw [flat_len Tb.c 3 Tb.c_len, List.length_drop, HNn.out])
  have HLt : Hid (((L.take k).flatMap Tb.c).length = k * 3) := Lib.hid (by rw [flat_len Tb.c 3 Tb.c_len, List.length_take, ← HNn.out]; omega)
  have HOd : Hid (∀ u ∈ (L.drop k).flatMap Tb.c, u.oneCell' = true) := Lib.hid (tb_ones _)
  have HOt : Hid (∀ u ∈ (L.take k).flatMap Tb.c, u.oneCell' = true) := Lib.hid (tb_ones _)
  have hflat : ∀ W, w3.grownBy W none → ∀ j u, (L.flatMap Tb.c)[j]? = some u → W.cell? ⟨b0, off + j, none⟩ = some u := by
    intro W hW j u hj
    rcases tabs_flat (HT.out W (G3.out.trans hW)) with e | ⟨b', off', e, _, hc⟩
    · rw [e] at hj; simp at hj
    · cases e; exact hc j u hj
  have hsplit : L.flatMap Tb.c = (L.take k).flatMap Tb.c ++ (L.drop k).flatMap Tb.c := by rw [← List.flatMap_append, List.take_append_drop]
  have HCt : Hid (∀ W, w3.grownBy W none → ∀ j u, ((L.take k).flatMap Tb.c)[j]? = some u → W.cell? ((⟨b0, off, none⟩ : Addr).add j) = some u) := Lib.hid (fun W hW j u hj => by
    rw [add_atT]
    refine hflat W hW j u ?_
    rw [hsplit, List.getElem?_append_left (List.getElem?_eq_some_iff.1 hj).1]
    exact hj)
  have HCd : Hid (∀ W, w3.grownBy W none → ∀ j u, ((L.drop k).flatMap Tb.c)[j]? = some u → W.cell? ((⟨b0, off + k * 3, none⟩ : Addr).add j) = some u) := Lib.hid (fun W hW j u hj => by
    rw [add_atT, Nat.add_assoc]
    refine hflat W hW (k * 3 + j) u ?_
    rw [hsplit, List.getElem?_append_right (by rw [HLt.out]; omega), HLt.out, show k * 3 + j - k * 3 = j by omega]
    exact hj)
  have HX : Hid ((L.drop k).flatMap Tb.c ++ (L.take k).flatMap Tb.c = (L.drop k ++ L.take k).flatMap Tb.c) := Lib.hid (by rw [List.flatMap_append])
  clear hflat hsplit
  generalize (L.drop k).flatMap Tb.c = xd at *
  generalize (L.take k).flatMap Tb.c = xt at *
  have k1 : (k : Int) ≤ N := by omega
  have k2 : (k : Int) ≤ cap := by omega
  have k3 : ¬ cap = k := by omega
  have k4 : (0 : Int) ≤ k := by omega
  refine wp_region_held_drew (S := (fun W => Hid (w3.grownBy W none))) (by kernel_rfl) (Lib.hid (grown_drewT (grown_reflT _ _))) (fun hHeld => ?_)
  refine wpAnyH_take (i := 1) (v := ?v1z1) rfl (by kernel_rfl) (by kernel_rfl) (by kernel_rfl) (fun _ _ _ h => h) (Or.inl ⟨by rfl, ?y1z1⟩) (by assumption) ?r1z1
  case y1z1 => (intro w hSw; (try dsimp only at hSw); go_simp; try with_reducible rfl)
  simp only [Act.put, List.getElem_toArray, List.getElem_cons_succ, List.getElem_cons_zero, List.size_toArray, List.length_cons, List.length_nil, Nat.reduceAdd, Array.replicate, List.replicate, List.setIfInBounds_toArray, List.set_cons_zero, List.set_cons_succ]
  refine wpAnyH_take (i := 2) (v := ?v2z2) rfl (by kernel_rfl) (by kernel_rfl) (by kernel_rfl) (fun _ _ _ h => h) (Or.inl ⟨by rfl, ?y2z2⟩) (by assumption) ?r2z2
  case y2z2 => (intro w hSw; (try dsimp only at hSw); go_simp; try with_reducible rfl)
  simp only [Act.put, List.getElem_toArray, List.getElem_cons_succ, List.getElem_cons_zero, List.size_toArray, List.length_cons, List.length_nil, Nat.reduceAdd, Array.replicate, List.replicate, List.setIfInBounds_toArray, List.set_cons_zero, List.set_cons_succ]
  refine wpAnyH_take (i := 3) (v := ?v3z3) rfl (by kernel_rfl) (by kernel_rfl) (by kernel_rfl) (fun _ _ _ h => h) (Or.inl ⟨by rfl, ?y3z3⟩) (by assumption) ?r3z3
  case y3z3 => (intro w hSw; (try dsimp only at hSw); go_simp; try with_reducible rfl)
  simp only [Act.put, List.getElem_toArray, List.getElem_cons_succ, List.getElem_cons_zero, List.size_toArray, List.length_cons, List.length_nil, Nat.reduceAdd, Array.replicate, List.replicate, List.setIfInBounds_toArray, List.set_cons_zero, List.set_cons_succ]
  refine wpAnyH_take (i := 5) (v := ?v5z4) rfl (by kernel_rfl) (by kernel_rfl) (by kernel_rfl) (fun _ _ _ h => h) (Or.inl ⟨by rfl, ?y5z4⟩) (by assumption) ?r5z4
  case y5z4 => (intro w hSw; (try dsimp only at hSw); go_simp; try with_reducible rfl)
  simp only [Act.put, List.getElem_toArray, List.getElem_cons_succ, List.getElem_cons_zero, List.size_toArray, List.length_cons, List.length_nil, Nat.reduceAdd, Array.replicate, List.replicate, List.setIfInBounds_toArray, List.set_cons_zero, List.set_cons_succ]
  refine wpAnyH_take (i := 6) (v := ?v6z5) rfl (by kernel_rfl) (by kernel_rfl) (by kernel_rfl) (fun _ _ _ h => h) (Or.inl ⟨by rfl, ?y6z5⟩) (by assumption) ?r6z5
  case y6z5 => (intro w hSw; (try dsimp only at hSw); go_simp; try with_reducible rfl)
  simp only [Act.put, List.getElem_toArray, List.getElem_cons_succ, List.getElem_cons_zero, List.size_toArray, List.length_cons, List.length_nil, Nat.reduceAdd, Array.replicate, List.replicate, List.setIfInBounds_toArray, List.set_cons_zero, List.set_cons_succ]
  refine wpAnyH_take (i := 7) (v := ?v7z6) rfl (by kernel_rfl) (by kernel_rfl) (by kernel_rfl) (fun _ _ _ h => h) (Or.inl ⟨by rfl, ?y7z6⟩) (by assumption) ?r7z6
  case y7z6 => (intro w hSw; (try dsimp only at hSw); go_simp; try with_reducible rfl)
  simp only [Act.put, List.getElem_toArray, List.getElem_cons_succ, List.getElem_cons_zero, List.size_toArray, List.length_cons, List.length_nil, Nat.reduceAdd, Array.replicate, List.replicate, List.setIfInBounds_toArray, List.set_cons_zero, List.set_cons_succ]
  refine wpAnyH_ready (rs := [0]) (by kernel_rfl) (by simp) ?_
  refine AllReadyH.cons rfl (fun K' hK => ?_) AllReadyH.nil
  go_simp
  obtain ⟨wb, hwb⟩ : ∃ wb, wb = (w3.alloc (.cells #[] 44)).drew := ⟨_, rfl⟩
  have ZB : Hid (w3.grownBy wb none) := Lib.hid (by rw [hwb]; exact grown_drewT (World.grownBy_alloc _ _ none))
  have WB : Hid (Win 3 wb (some ⟨w3.heap.size, 0, none⟩) 0 0 []) := Lib.hid (by rw [hwb]; exact ⟨rfl, Nat.le_refl _, Nat.zero_le _, fun k hk => by rw [bk_some] at hk; subst hk; simp, .inl rfl⟩)
  rw [← hwb]
  clear hwb
  refine hK.out _ _ ZB (fun hHeld => ?_)
  clear hK K'
  simp only [Act.put, List.getElem_toArray, List.getElem_cons_succ, List.getElem_cons_zero, List.size_toArray, List.length_cons, List.length_nil, Nat.reduceAdd, Array.replicate, List.replicate, List.setIfInBounds_toArray, List.set_cons_zero, List.set_cons_succ]
  refine wpAnyH_ready (rs := [4]) (by kernel_rfl) (by simp) ?_
  refine AllReadyH.cons rfl (fun K' hK => ?_) AllReadyH.nil
  refine wp_append_winA (.tmp 52) (.tmp 55) tb_el (by rfl) WB.out (by rfl) (some ⟨b0, off + k * 3, none⟩) (N - k) (cap - k) (by rfl) xd (fun e => by cases e) HLd.out (by omega) (fun ad e => by cases e; exact (HCd.out _ ZB.out)) HOd.out ?_
  intro a5 c5 w5 z5 o5 b5 _
  have Z5 : Hid (w3.grownBy w5 none) := Lib.hid (grown_onlyN ZB.out o5 (fun k hk => by rw [bk_some] at hk; omega))
  rw [Nat.zero_add] at z5 ⊢
  have W5 := Lib.hid z5
  have L5 : Hid (∀ k, bk a5 k → w3.heap.size ≤ k) := Lib.hid (fun k hk => (b5 k hk).elim (fun e => by rw [bk_some] at e; omega) (fun e => Nat.le_trans ZB.out.size e))
  clear z5 o5 b5
  refine hK.out _ _ Z5 (fun hHeld => ?_)
  clear hK K'
  simp only [Act.put, List.getElem_toArray, List.getElem_cons_succ, List.getElem_cons_zero, List.size_toArray, List.length_cons, List.length_nil, Nat.reduceAdd, Array.replicate, List.replicate, List.setIfInBounds_toArray, List.set_cons_zero, List.set_cons_succ]
  refine wpAnyH_ready (rs := [8]) (by kernel_rfl) (by simp) ?_
  refine AllReadyH.cons rfl (fun K' hK => ?_) AllReadyH.nil
  refine wp_append_winA (.tmp 56) (.tmp 59) tb_el (by rfl) W5.out (by rfl) (some ⟨b0, off, none⟩) k cap (by rfl) xt (fun e => by cases e) HLt.out (by omega) (fun ad e => by cases e; exact (HCt.out _ Z5.out)) HOt.out ?_
  intro a6 c6 w6 z6 o6 b6 _
  have Z6 : Hid (w3.grownBy w6 none) := Lib.hid (grown_onlyN Z5.out o6 L5.out)
  rw [show N - k + k = N by omega] at z6 ⊢
  have W6 := Lib.hid z6
  clear z6 o6 b6
  refine hK.out _ _ Z6 (fun hHeld => ?_)
  clear hK K'
  simp only [Act.put, List.getElem_toArray, List.getElem_cons_succ, List.getElem_cons_zero, List.size_toArray, List.length_cons, List.length_nil, Nat.reduceAdd, Array.replicate, List.replicate, List.setIfInBounds_toArray, List.set_cons_zero, List.set_cons_succ]
  refine wpAnyH_take (i := 9) (v := ?v9z7) rfl (by kernel_rfl) (by kernel_rfl) (by kernel_rfl) (fun _ _ _ h => h) (Or.inl ⟨by rfl, ?y9z7⟩) (by assumption) ?r9z7
  case y9z7 => (intro w hSw; (try dsimp only at hSw); go_simp; try with_reducible rfl)
  simp only [Act.put, List.getElem_toArray, List.getElem_cons_succ, List.getElem_cons_zero, List.size_toArray, List.length_cons, List.length_nil, Nat.reduceAdd, Array.replicate, List.replicate, List.setIfInBounds_toArray, List.set_cons_zero, List.set_cons_succ]
  refine wpAnyH_done (by kernel_rfl) ?_ _
  have G6 := Lib.hid (G3.out.trans Z6.out)
  have B6 := Lib.hid (blk_grown Z6.out B3.out)
  have S6 := Lib.hid (HS1.out.keep (.of Z6.out))
  have hT6 : TabsAt w6.heap.size w6 a6 (L.drop k ++ L.take k) := by
    refine tabs_of_cells ?_ (by rw [List.length_append, List.length_drop, List.length_take, ← HNn.out]; omega) (fun t ht => (HT.out w6 G6.out).2.1 t ?_)
    · have := win_cells (S := fun _ => True) W6.out (fun _ _ => trivial)
      rw [List.nil_append, HX.out] at this
      exact this
    · rcases List.mem_append.1 ht with e | e
      · exact List.mem_of_mem_drop e
      · exact List.mem_of_mem_take e
  have HC2 := Lib.hid (HC.out a6 c6 (L.drop k ++ L.take k) w6 G6.out hT6 (fun t ht => HCol.out t (by
    rcases List.mem_append.1 ht with e | e
    · exact List.mem_of_mem_drop e
    · exact List.mem_of_mem_take e)) (by rw [ckL_turn HRt.out k (by rw [← HNn.out]; omega) s]; exact HR.out.symm))
  rw [show (L.drop k ++ L.take k).length = N by rw [List.length_append, List.length_drop, List.length_take, ← HNn.out]; omega] at HC2
  clear hT6 W6 L5 W5 WB Z5 ZB Z6 HCd HCt HLd HLt HOd HOt HX hHeld HS1 B3 k1 k2 k3 k4
  go_wp2_with fail
  refine HC2.out.mono ?_
  rintro e w7 ⟨hg, y2, rfl, hy2, hS2⟩
  have G7 := Lib.hid (G6.out.trans hg)
  have B7 := Lib.hid (blk_grown hg B6.out)
  have S7 := Lib.hid (S6.out.keep (.of hg))
  have w7B := Lib.hid (heap_alloc_new w7 (.cells (Qm.z 0).c 36))
  have g8 := grown_thenX (World.grownBy_alloc w7 (.cells (Qm.z 0).c 36) none) (grown_setRow _ w7.heap.size y2.c) (fun j e => by cases e; exact Nat.le_refl _)
  have b8' := setRow_heap _ _ (Qm.z 0).c y2.c _ _ (heap_alloc_new w7 (.cells (Qm.z 0).c 36))
  have HY2 := Lib.hid hy2
  have HS2 := Lib.hid (hS2.keep (.of g8))
  clear hg hy2 hS2 HC2
  go_upto_region 7 with (refine wpList_store_row rfl 36 (.tmp 12) (.tmp 65) rfl w7.heap.size y2.c rfl rfl 36 (Qm.z 0).c (w7B.out) (by rw [Qm.c_size]; exact query_size) (by rw [Qm.c_size, Qm.c_size]) (Qm.c_all _) ?_)
  change Code.wp _ _ _ _ ((w7.alloc (.cells (Qm.z 0).c 36)).setRow w7.heap.size y2.c)
  have G8 := Lib.hid (G7.out.trans g8)
  have B8 := Lib.hid (blk_grown g8 B7.out)
  have S8 := Lib.hid (S7.out.keep (.of g8))
  have C8 := Lib.hid b8'
  clear g8 b8' w7B B7 S7 B6 S6
  generalize (w7.alloc (.cells (Qm.z 0).c 36)).setRow w7.heap.size y2.c = w8 at *
  as_aux_lemma =>
  have HSm := Lib.hid (fun (y : Qm) W (hW : w8.grownBy W none) (hy : y.e = treeE R) (hyS : QmS (fun _ => True) W y) => refSame_one (fun _ => True) y1 y W (HY1.out.trans hy.symm) ((S8.out.keep (.of hW)).mono (fun _ _ _ => trivial)) hyS (by
    have := HBd.out.1
    rw [← HY1.out] at this
    rw [Pm.n_e]; exact this) (by
    have := HBd.out.2
    rw [← HY1.out] at this
    exact this))
  have HSm2 := Lib.hid (HSm.out y2 w8 (grown_reflT _ _) HY2.out (HS2.out.mono (fun _ _ _ => trivial)))
  go_cut [81] from 20 (fun s81 wx => s81 = .bool false ∧ Hid (w8.grownBy wx none))
  case first => as_aux_lemma =>
    go_wp2_with first
      | (refine wpList_load_rowG (by rfl) 36 (.tmp 7) rfl w2.heap.size rfl 36 y1.c (0, 0) _ B8.out Tryz.underlying36 rfl (by rw [Qm.c_size]; exact query_size) ?_)
      | (refine wpList_load_rowG (by rfl) 36 (.tmp 12) rfl w7.heap.size rfl 36 y2.c (0, 0) _ C8.out Tryz.underlying36 rfl (by rw [Qm.c_size]; exact query_size) ?_)
    refine (HSm2.out).mono ?_
    rintro e w9 ⟨rfl, hg⟩
    have G9 := Lib.hid hg
    clear hg HSm2 B8 C8
    go_wp2_with fail
    go_meet
    exact ⟨rfl, G9⟩
  case rest =>
  obtain ⟨rfl, G9⟩ := hcut
  obtain ⟨w9, hw9⟩ : ∃ w9, w9 = wc := ⟨_, rfl⟩
  rw [← hw9] at G9 ⊢
  clear hw9 HSm2
  obtain ⟨ta1, hta1⟩ : ∃ ta1, ta1 = y1.table := ⟨_, rfl⟩
  have GW9 := Lib.hid (G8.out.trans G9.out)
  have V9 := Lib.hid (blk_grown G9.out B8.out)
  have HSm9 := Lib.hid (fun (y : Qm) W (hW : w9.grownBy W none) => HSm.out y W (G9.out.trans hW))
  have HTab : Hid (ta1 = (treeE R).table) := Lib.hid (by rw [hta1, ← HY1.out]; rfl)
  have HTa1 := Lib.hid hta1
  clear hta1
  clear HSm G9 B8 C8 S8 HS2 HY2 HBd G3 G6 G7 G8 G2' G1'
  as_aux_lemma =>
  go_wp2_with fail
  go_loopw [84] (fun s84 wr => ∃ j : Nat, s84 = .int .i64 j ∧ j ≤ N ∧ Hid (w9.grownBy wr none)) (fun s84 _ => N - (intOf s84).toNat)
  case atStart => exact ⟨0, rfl, by omega, Lib.hid (grown_reflT _ _)⟩
  case round =>
    obtain ⟨j, rfl, hj, KG⟩ := hrel
    have GR := Lib.hid (GW9.out.trans KG.out)
    by_cases hlt : j < N
    · obtain ⟨b', off', e, _, c0, c1, c2⟩ := (HT.out wr GR.out).at (i := j) (by rw [← HNn.out]; exact hlt)
      cases e
      have VR := Lib.hid (blk_grown KG.out V9.out)
      have v2 : wr.cell? ⟨w2.heap.size, 2, none⟩ = some (.string ta1) := (cell_of_row _ _ 2 _ _ _ VR.out).trans (by rw [HTa1.out]; rfl)
      have hcol := (HT.out wr GR.out).2.1 (L.getD j default) (tb_mem (by rw [← HNn.out]; exact hlt))
      have hcl := HCol.out (L.getD j default) (tb_mem (by rw [← HNn.out]; exact hlt))
      have hal := Lib.hid (fun hh => ckL_alone HRt.out s (i := j) (by rw [← HNn.out]; exact hlt) hh)
      generalize L.getD j default = t at *
      obtain ⟨tn, ta, tc, tl, tk⟩ := t
      simp only at c0 c1 c2 hcol hcl hal
      obtain ⟨tln, htln⟩ : ∃ tln, tln = tl.length := ⟨_, rfl⟩
      have Htln := Lib.hid htln
      rw [← htln] at c1
      have j0 : (0 : Int) ≤ j := by omega
      have j1 : (j : Int) < N := by omega
      have j2 : (j : Int) < cap := by omega
      have g1 := World.grownBy_alloc wr (.cells #[.string tn, .slice ta tln tc, .int .i64 tk] 44) none
      have g2 := World.grownBy_alloc (wr.alloc (.cells #[.string tn, .slice ta tln tc, .int .i64 tk] 44)) (.cells #[.string tn, .slice ta tln tc, .int .i64 tk] 44) none
      clear htln
      by_cases he : tn = ta1
      · have he' := he.symm
        subst he'
        have v3 := g1.cell v2 (by simp)
        have hR3 : ckL s [⟨ta1, ta, tc, tl, tk⟩] = R := by rw [hal.out (by rw [← HR.out]; exact HTab.out)]; exact HR.out.symm
        have hT3 : TabsAt ((wr.alloc (.cells #[.string ta1, .slice ta tln tc, .int .i64 tk] 44)).alloc (.cells #[.string ta1, .slice ta tln tc, .int .i64 tk] 44)).heap.size ((wr.alloc (.cells #[.string ta1, .slice ta tln tc, .int .i64 tk] 44)).alloc (.cells #[.string ta1, .slice ta tln tc, .int .i64 tk] 44)) (some ⟨wr.heap.size + 1, 0, none⟩) [⟨ta1, ta, tc, tl, tk⟩] := by
          refine tabs_of_cells (.inr ⟨wr.heap.size + 1, 0, rfl, trivial, by simp, fun q u hq => ?_⟩) (by simp) (fun t ht => ?_)
          · have hb := heap_alloc_new (wr.alloc (.cells #[.string ta1, .slice ta tln tc, .int .i64 tk] 44)) (.cells #[.string ta1, .slice ta tln tc, .int .i64 tk] 44)
            rw [show (wr.alloc (.cells #[.string ta1, .slice ta tln tc, .int .i64 tk] 44)).heap.size = wr.heap.size + 1 by simp] at hb
            rw [Nat.zero_add, cell_of_row _ _ q _ _ _ hb]
            rw [Htln.out]
            simpa [Tb.c] using hq
          · obtain rfl : t = _ := by simpa using ht
            exact (hcol.keep (g1.trans g2) (by simp)).mono (g1.trans g2).size
        have HC3 := Lib.hid (HC.out _ 1 _ _ (GR.out.trans (g1.trans g2)) hT3 (fun t ht => by
          obtain rfl : t = _ := by simpa using ht
          exact hcl) hR3)
        have GZ := Lib.hid (g1.trans g2)
        clear hT3 hR3 hcol hcl hal g1 g2 Htln
        as_aux_lemma =>
        go_wp2_with fail
        refine (HC3.out).mono ?_
        rintro e w10 ⟨hg, y3, rfl, hy3, hS3⟩
        have G10 := Lib.hid (KG.out.trans (GZ.out.trans hg))
        have V10 := Lib.hid (blk_grown (GZ.out.trans hg) VR.out)
        have w10B := Lib.hid (heap_alloc_new w10 (.cells (Qm.z 0).c 36))
        have g11 := grown_thenX (World.grownBy_alloc w10 (.cells (Qm.z 0).c 36) none) (grown_setRow _ w10.heap.size y3.c) (fun j e => by cases e; exact Nat.le_refl _)
        have b11 := setRow_heap _ _ (Qm.z 0).c y3.c _ _ (heap_alloc_new w10 (.cells (Qm.z 0).c 36))
        have HY3 := Lib.hid hy3
        have HS3 := Lib.hid (hS3.keep (.of g11))
        clear hg hy3 hS3 HC3 v2 v3 c0 c1 c2
        go_upto_region 14 with (refine wpList_store_row rfl 36 (.tmp 17) (.tmp 98) rfl w10.heap.size y3.c rfl rfl 36 (Qm.z 0).c (w10B.out) (by rw [Qm.c_size]; exact query_size) (by rw [Qm.c_size, Qm.c_size]) (Qm.c_all _) ?_)
        change Code.wp _ _ _ _ ((w10.alloc (.cells (Qm.z 0).c 36)).setRow w10.heap.size y3.c)
        have G11 := Lib.hid (G10.out.trans g11)
        have V11 := Lib.hid (blk_grown g11 V10.out)
        have U11 := Lib.hid b11
        clear g11 b11 w10B V10 VR G10
        generalize (w10.alloc (.cells (Qm.z 0).c 36)).setRow w10.heap.size y3.c = w11 at *
        have HSm3 := Lib.hid (HSm9.out y3 w11 G11.out HY3.out (HS3.out.mono (fun _ _ _ => trivial)))
        go_cut [114] from 85 (fun s114 wx => s114 = .bool false ∧ Hid (w11.grownBy wx none))
        case first => as_aux_lemma =>
          go_wp2_with first
            | (refine wpList_load_rowG (by rfl) 36 (.tmp 7) rfl w2.heap.size rfl 36 y1.c (0, 0) _ V11.out Tryz.underlying36 rfl (by rw [Qm.c_size]; exact query_size) ?_)
            | (refine wpList_load_rowG (by rfl) 36 (.tmp 17) rfl w10.heap.size rfl 36 y3.c (0, 0) _ U11.out Tryz.underlying36 rfl (by rw [Qm.c_size]; exact query_size) ?_)
          refine (HSm3.out).mono ?_
          rintro e w12 ⟨rfl, hg⟩
          have G12 := Lib.hid hg
          clear hg HSm3 V11 U11
          go_wp2_with fail
          go_meet
          exact ⟨rfl, G12⟩
        case rest =>
        obtain ⟨rfl, G12x⟩ := hcut
        have G12 := Lib.hid (G11.out.trans G12x.out)
        clear HSm3 G12x
        go_wp2_with fail
        go_roundw
        case rel => exact ⟨j + 1, by go_num, by omega, G12⟩
        case measure => simp [intOf]; omega
      · have e0 := str_ne he
        have v3 := g1.cell v2 (by simp)
        have GZ := Lib.hid (KG.out.trans g1)
        clear hcol hcl hal g1 g2 he
        go_wp2_with fail
        go_roundw
        case rel => exact ⟨j + 1, by go_num, by omega, GZ⟩
        case measure => simp [intOf]; omega
    · obtain rfl : j = N := by omega
      go_wp2_with fail
      go_ret
      exact ⟨rfl, GR.out⟩
end Go.Proofs.YtjaclmoobfeikaaGreatDoor
namespace Go.Proofs.YtjaclmoobfeikaaGreatDoor
open Go.ChangeShapes Go.WideShapes Go.ChangeAt Go.RowKit Go.Joins Go.Deep

section
set_option maxRecDepth 100000
variable {H : Type} {enc : TypeId × Value → H}
theorem addS_plain (b o k : Nat) : (⟨b, o, none⟩ : Addr).add k = ⟨b, o + k, none⟩ := by
  unfold Addr.add
  by_cases h : k = 0
  · subst h; simp
  · simp [h]
theorem blockS_of_cell {w : World} {b o : Nat} {v : Value} (h : w.cell? ⟨b, o, none⟩ = some v) : b < w.heap.size := by
  rcases Nat.lt_or_ge b w.heap.size with h' | h'
  · exact h'
  · simp [World.cell?, Array.getElem?_eq_none h'] at h
theorem cellS_plain {W : World} {a : Addr} {v : Value} (h : W.cell? (a.add 0) = some v) : a = ⟨a.block, a.off, none⟩ := by
  obtain ⟨b, off, spot⟩ := a
  have : spot = none := by simpa [Addr.add] using World.cell?_spot h
  subst this
  rfl
theorem colS_cells {W : World} {base n : Nat} {spare : Nat → Bool} {held : Bool} {cs : List Value} {y : DataW H × List MemPlace} (ht : DataW.trod enc Tryz.prog W base spare held n 86 cs = some y) (hcl : cs.length = 3) :
    ∃ x : Cl, cs = [.string x.n, .int .i64 x.k, .bool x.b] ∧ x.n.size ≤ maxLen := by
  obtain ⟨c0, c1, c2, rfl⟩ : ∃ c0 c1 c2, cs = [c0, c1, c2] := by
    match cs, hcl with
    | [c0, c1, c2], _ => exact ⟨c0, c1, c2, rfl⟩
  obtain ⟨y0, y1, y2, m, _, _, h0, h1, h2⟩ := trod_struct3 Tryz.underlying86 ht
  have k0 : Tryz.prog.cellsOf 27 = 1 := by kernel_rfl
  have k1 : Tryz.prog.cellsOf 4 = 1 := by kernel_rfl
  have k2 : Tryz.prog.cellsOf 9 = 1 := by kernel_rfl
  simp only [k0, k1, k2, List.drop_zero, List.drop_succ_cons, List.take_succ_cons, List.take_zero] at h0 h1 h2
  obtain ⟨s, e0, _, hs⟩ := DataW.trod_string Tryz.underlying9 h0
  obtain ⟨k, e1, _, _⟩ := DataW.trod_int Tryz.underlying27 h1
  obtain ⟨b, e2, _⟩ := DataW.trod_bool Tryz.underlying4 h2
  simp only [List.cons.injEq, and_true] at e0 e1 e2
  subst e0 e1 e2
  exact ⟨⟨s, k, b⟩, rfl, hs⟩
theorem cellsS_col : Tryz.prog.cellsOf 86 = 3 := by kernel_rfl
theorem colsS_cells {W : World} {fuel : Nat} {cs : List Value} {y : DataW H × List MemPlace} (hf : DataW.trod enc Tryz.prog W 0 (fun _ => true) true fuel 42 cs = some y) :
    ∃ (a : Option Addr) (cap : Nat) (l : List Cl), cs = [.slice a l.length cap] ∧ ColsAt W.heap.size W a l ∧ l.length ≤ cap ∧ ∀ i, i < l.length → (l.getD i default).n.size ≤ 9223372036854775807 := by
  rcases open_slice Tryz.underlying42 hf with ⟨hcs, _⟩ | ⟨x, len, cap', m, n, D, Pl, hcs, _, hl, hm, hmm, _, hi⟩
  · exact ⟨none, 0, [], hcs, ⟨by simp, .inl rfl⟩, Nat.le_refl _, fun i hi => by simp at hi⟩
  · simp only [if_true] at hmm
    subst hmm
    have hx : ∀ i, i < len → ∃ x' : Cl, x'.n.size ≤ maxLen ∧ W.cell? ((x.add (i * Tryz.prog.cellsOf 86)).add 0) = some (.string x'.n) ∧ W.cell? ((x.add (i * Tryz.prog.cellsOf 86)).add 1) = some (.int .i64 x'.k) ∧ W.cell? ((x.add (i * Tryz.prog.cellsOf 86)).add 2) = some (.bool x'.b) := fun i hilt => by
      obtain ⟨cs', hc, ht⟩ := hi i (by omega)
      obtain ⟨_, hcl, hat⟩ := World.cells?_some hc
      obtain ⟨x', e, hs⟩ := colS_cells ht (hcl.trans cellsS_col)
      subst e
      exact ⟨x', hs, hat 0 (by rw [cellsS_col]; decide), hat 1 (by rw [cellsS_col]; decide), hat 2 (by rw [cellsS_col]; decide)⟩
    obtain ⟨f, hfun⟩ := choose_lt hx
    rw [cellsS_col] at hfun
    have hlen : ((List.range len).map f).length = len := by simp
    have hget : ∀ i, i < len → ((List.range len).map f).getD i default = f i := fun i hilt => by simp [List.getD, hilt]
    refine ⟨some x, m, (List.range len).map f, by rw [hlen]; exact hcs, ⟨by rw [hlen]; unfold maxLen at hm; omega, ?_⟩, by rw [hlen]; exact hl, fun i hi => ?_⟩
    · by_cases h0 : len = 0
      · left; subst h0; rfl
      · right
        have hp : x = ⟨x.block, x.off, none⟩ := cellS_plain (W := W) (v := .string (f 0).n) (by have := (hfun 0 (by omega)).2.1; simpa [Addr.add] using this)
        have hc0 := (hfun 0 (by omega)).2.1
        rw [hp] at hc0
        refine ⟨x.block, x.off, by rw [← hp], blockS_of_cell hc0, fun i hilt => ?_⟩
        rw [hlen] at hilt
        rw [hget i hilt]
        have := (hfun i hilt).2
        rw [hp] at this
        simpa only [addS_plain, Nat.add_zero] using this
    · rw [hlen] at hi
      rw [hget i hi]
      have := (hfun i hi).1
      unfold maxLen at this
      omega
theorem cellsG_table : Tryz.prog.cellsOf 44 = 3 := by kernel_rfl
theorem cellsG_cols : Tryz.prog.cellsOf 42 = 1 := by kernel_rfl
theorem tableG_cells {W : World} {n : Nat} {cs : List Value} {y : DataW H × List MemPlace} (ht : DataW.trod enc Tryz.prog W 0 (fun _ => true) true n 44 cs = some y) (hcl : cs.length = 3) :
    ∃ x : Tb, cs = [.string x.n, .slice x.a x.l.length x.cap, .int .i64 x.k] ∧ ColsAt W.heap.size W x.a x.l ∧ x.l.length ≤ x.cap ∧ x.n.size ≤ 9223372036854775807 ∧ ∀ i, i < x.l.length → (x.l.getD i default).n.size ≤ 9223372036854775807 := by
  obtain ⟨c0, c1, c2, rfl⟩ : ∃ c0 c1 c2, cs = [c0, c1, c2] := by
    match cs, hcl with
    | [c0, c1, c2], _ => exact ⟨c0, c1, c2, rfl⟩
  obtain ⟨y0, y1, y2, m, _, _, h0, h1, h2⟩ := trod_struct3 Tryz.underlying44 ht
  have k0 : Tryz.prog.cellsOf 3 = 1 := by kernel_rfl
  have k1 : Tryz.prog.cellsOf 9 = 1 := by kernel_rfl
  simp only [k0, k1, cellsG_cols, List.drop_zero, List.drop_succ_cons, List.take_succ_cons, List.take_zero] at h0 h1 h2
  obtain ⟨s, e0, _, hs⟩ := DataW.trod_string Tryz.underlying9 h0
  obtain ⟨a, cap, l, e1, hc1, hc2, hc3⟩ := colsS_cells h1
  obtain ⟨k, e2, _, _⟩ := DataW.trod_int Tryz.underlying3 h2
  simp only [List.cons.injEq, and_true] at e0 e1 e2
  subst e0 e1 e2
  exact ⟨⟨s, a, cap, l, k⟩, rfl, hc1, hc2, by unfold maxLen at hs; show s.size ≤ _; omega, hc3⟩
theorem open_tables9 {W : World} {b0 : Nat} {v : Value} {d : DataW H} {p : List MemPlace} (hv : Value.okWide Tryz.prog W .any b0 22 v) (h : DataW.Trod enc Tryz.prog W 0 (fun _ => true) true 22 v d p) :
    ∃ (a : Option Addr) (cap : Nat) (l : List Tb), v = .slice a l.length cap ∧ l.length ≤ cap ∧ TabsAt W.heap.size W a l ∧ (∀ t ∈ l, t.l.length ≤ t.cap) ∧ (∀ t ∈ l, t.n.size ≤ 9223372036854775807 ∧ ∀ i, i < t.l.length → (t.l.getD i default).n.size ≤ 9223372036854775807) := by
  obtain ⟨a, len, cap, rfl⟩ := okWide_slice Tryz.underlying22 hv
  obtain ⟨fuel, hf⟩ := h
  rcases open_slice Tryz.underlying22 hf with ⟨hcs, _⟩ | ⟨x, len', cap', m, n, D, Pl, hcs, _, hl, hm, hmm, _, hi⟩
  · simp [Value.cells] at hcs
    obtain ⟨rfl, rfl, rfl⟩ := hcs
    exact ⟨none, 0, [], rfl, Nat.le_refl _, ⟨by simp, by simp, .inl rfl⟩, by simp, by simp⟩
  · simp [Value.cells] at hcs
    obtain ⟨rfl, rfl, rfl⟩ := hcs
    simp only [if_true] at hmm
    subst hmm
    have hx : ∀ i, i < len → ∃ z : Tb, (ColsAt W.heap.size W z.a z.l ∧ z.l.length ≤ z.cap ∧ z.n.size ≤ 9223372036854775807 ∧ ∀ i, i < z.l.length → (z.l.getD i default).n.size ≤ 9223372036854775807) ∧ W.cell? ((x.add (i * Tryz.prog.cellsOf 44)).add 0) = some (.string z.n) ∧ W.cell? ((x.add (i * Tryz.prog.cellsOf 44)).add 1) = some (.slice z.a z.l.length z.cap) ∧ W.cell? ((x.add (i * Tryz.prog.cellsOf 44)).add 2) = some (.int .i64 z.k) := fun i hilt => by
      obtain ⟨cs', hc, ht⟩ := hi i (by omega)
      obtain ⟨_, hcl, hat⟩ := World.cells?_some hc
      obtain ⟨z, e, hz⟩ := tableG_cells ht (hcl.trans cellsG_table)
      subst e
      exact ⟨z, hz, hat 0 (by rw [cellsG_table]; decide), hat 1 (by rw [cellsG_table]; decide), hat 2 (by rw [cellsG_table]; decide)⟩
    obtain ⟨f, hfun⟩ := choose_lt hx
    rw [cellsG_table] at hfun
    have hlen : ((List.range len).map f).length = len := by simp
    have hget : ∀ i, i < len → ((List.range len).map f).getD i default = f i := fun i hilt => by simp [List.getD, hilt]
    have hmem : ∀ z ∈ (List.range len).map f, ColsAt W.heap.size W z.a z.l ∧ z.l.length ≤ z.cap ∧ z.n.size ≤ 9223372036854775807 ∧ ∀ i, i < z.l.length → (z.l.getD i default).n.size ≤ 9223372036854775807 := fun z hz => by
      rw [List.mem_map] at hz
      obtain ⟨i, hir, rfl⟩ := hz
      exact (hfun i (by simpa using hir)).1
    refine ⟨some x, m, (List.range len).map f, by rw [hlen], by rw [hlen]; exact hl, ⟨by rw [hlen]; unfold maxLen at hm; omega, fun z hz => (hmem z hz).1, ?_⟩, fun z hz => (hmem z hz).2.1, fun z hz => (hmem z hz).2.2⟩
    by_cases h0 : len = 0
    · left; subst h0; rfl
    · right
      have hp : x = ⟨x.block, x.off, none⟩ := cellS_plain (W := W) (v := .string (f 0).n) (by have := (hfun 0 (by omega)).2.1; simpa [Addr.add] using this)
      have hc0 := (hfun 0 (by omega)).2.1
      rw [hp] at hc0
      refine ⟨x.block, x.off, by rw [← hp], blockS_of_cell hc0, fun i hilt => ?_⟩
      rw [hlen] at hilt
      rw [hget i hilt]
      have := (hfun i hilt).2
      rw [hp] at this
      simpa only [addS_plain, Nat.add_zero] using this
end
end Go.Proofs.YtjaclmoobfeikaaGreatDoor
namespace Go.Proofs.YtjaclmoobfeikaaGreatDoor
open Go.RowKit
theorem CheckAlone_any (s : ByteArray) (a : Option Addr) (cap : Nat) (L : List Tb) (by' : Int) (W : World) (hs : s.size ≤ maxLen) (h : TabsAt W.heap.size W a L) (hcap : L.length ≤ cap) (hcs : ∀ t ∈ L, t.l.length ≤ t.cap) (hN : ∀ t ∈ L, t.n.size ≤ 9223372036854775807 ∧ ∀ i, i < t.l.length → (t.l.getD i default).n.size ≤ 9223372036854775807) (hL : laidMetH Tryz.prog laid12x W) : Calls Tryz.prog 3 #[.string s, .slice a L.length cap, .int .i64 by'] W fun e W' => e = .returned (.bool true) ∧ Below W.heap.size W W' := by
  obtain ⟨n, g, m, l, hE⟩ := lxEnv12_of hL
  obtain ⟨f, hF⟩ := ckEnv12_of hL
  exact (checkAlone_walk _ _ n g m l f s a cap L by' W hE hF hs h hcap hcs hN).mono fun _ _ ⟨he, hg⟩ => ⟨he, below_grownL hg⟩
end Go.Proofs.YtjaclmoobfeikaaGreatDoor
namespace Go.Proofs.YtjaclmoobfeikaaGreatDoor
open Go.ChangeShapes Go.WideShapes Go.ChangeAt Go.RowKit Go.Joins
open Go.ChangeMaps (open_string shut_string)

set_option maxRecDepth 100000 in
theorem checkAlone_lifted (os : Os) (started : os.Started) (H : Type) (enc : TypeId × Value → H) :
    ReturnsInHanded {} Tryz.checked os 3 .any (fun w args => (Rows.checkAloneSpec.pre enc Tryz.prog Tryz.f3 [] false w args ∧ laidMetH Tryz.prog laid12x w) ∧ sizedMet enc Tryz.prog Tryz.f3 (OpenSpec.ofChange Rows.checkAloneSpec) false w args)
      (Rows.checkAloneSpec.post enc Tryz.prog Tryz.f3 false true false false) := by
  refine returnsInHanded_of_change_and (C := Tryz.checked) (X := fun w _ => laidMetH Tryz.prog laid12x w) (fun _ _ _ hh h => h.of_heap hh) own started (by kernel_rfl) Tryz.func3
    (ChangeSpec.witness_shaped (enc := enc) (C := Tryz.checked) (os := os) (X := fun w _ => laidMetH Tryz.prog laid12x w) false (World.doorLaid Tryz.prog 400 os) #[.string ⟨#[]⟩, .slice none 0 0, .int .i64 0] 8 rfl (World.shaped_of_RefB (by kernel_rfl) (by kernel_rfl)) (by kernel_rfl) (by kernel_rfl) (by kernel_rfl) (door_met12x os _)) ?_
  intro W base args ds gs before hval0 hW _ _ hL _
  have hval : ∀ (j : Nat) t v, Tryz.f3.params[j]? = some t → args[j]? = some v → Value.okWide Tryz.prog W .any base t v := hval0
  have hW' := hW
  obtain ⟨p, q, hA0, hV, rfl, hfz, hnd⟩ := hW
  have hA : DataW.TrodAll enc Tryz.prog W 0 (fun _ => true) true Tryz.f3.params.toList args.toList ds p := hA0
  rw [Tryz.params3] at hA hval
  obtain ⟨v0, v1, v2, d0, d1, d2, p0, p1, p2, rfl, rfl, rfl, h0, h1, h2⟩ := trodAll_three hA
  obtain ⟨rfl, rfl⟩ := trodVars_none hV
  obtain ⟨s0, rfl, rfl, rfl, hs0⟩ := open_string Tryz.underlying9 (hval 0 9 v0 rfl rfl) h0
  have kk1 := h1
  have lt1 : ∀ x ∈ p1, x.block < W.heap.size := by obtain ⟨m, hm⟩ := kk1; exact DataW.trod_lt m _ _ _ hm
  obtain ⟨a1, cap1, l1, rfl, hc1, row1, hcs1, hN1⟩ := open_tables9 (hval 1 22 v1 rfl rfl) h1
  obtain ⟨n2, rfl, rfl, rfl, wn2⟩ := open_int Tryz.underlying3 (hval 2 3 v2 rfl rfl) h2
  clear hA0 hval0
  simp only [List.append_nil] at hW'
  refine (CheckAlone_any s0 a1 cap1 l1 n2 W hs0 row1 hc1 hcs1 hN1 hL).mono fun e W' ⟨he, hb⟩ => ?_
  subst he
  exact ⟨_, rfl, _, _, _, [], _, [], hW', trodAll_mk1 (shut_bool Tryz.underlying4 _), trodAll_mk3 (shut_string Tryz.underlying9 hs0) (Below.trod laidOut (by kernel_rfl) (of_decide_eq_true (by kernel_rfl)) kk1 hb lt1) (shut_int Tryz.underlying3 wn2), rfl, hb.frame _, fun h => by cases h⟩

theorem checkAlone_holds : Rows.CheckAloneSaid :=
  OpenClaim.holds_of_wide 3 Tryz.f3 rfl rfl rfl rfl rfl rfl rfl ⟨rfl, rfl, rfl, rfl, rfl⟩ rfl rfl rfl rfl rfl (by kernel_rfl) Tryz.func3 (by kernel_rfl)
    (of_decide_eq_true (by kernel_rfl)) (by unfold Func.isWrapper; first | (rw [if_pos (by decide +kernel)]; kernel_rfl) | (rw [if_neg (by decide +kernel)]; exact ⟨rfl, rfl⟩))
    (fun os started H enc _ => checkAlone_lifted os started H enc)

theorem checkAlone_card : Rows.CheckAloneCardSaid :=
  Claim7.holds_tied_plain_at .later [] [.data, .data, .data, .handle, .sentinel, .sentinel, .sentinel, .sentinel, .sentinel, .sentinel, .sentinel, .sentinel, .sentinel, .sentinel, .sentinel] true Rows.checkAloneCard.stood.harness true
    checkAlone_holds (fun _ h => by cases h) (by kernel_rfl) (fun _ h => by cases h) checkAlone_row_tie rfl ⟨rfl, rfl⟩ (by kernel_rfl) rfl
    (fun f fn hf hfn => by
      obtain rfl : f = 3 := Option.some.inj ((show Tryz.prog.funcNamed "stillroom/stillroomlaw12.CheckAlone" = some 3 by kernel_rfl).symm.trans hf) |>.symm
      obtain rfl : fn = Tryz.f3 := (Option.some.inj (Tryz.func3.symm.trans hfn)).symm
      exact ⟨by kernel_rfl, fun j t ht => by
        rw [Tryz.params3] at ht
        have hm : t ∈ [9, 22, 3] := by simpa using Array.mem_of_getElem? ht
        have hall : ([9, 22, 3].all fun u => !Tryz.prog.wantsStandIn u) = true := by kernel_rfl
        exact (show Tryz.prog.wantsStandIn t = false by simpa using List.all_eq_true.1 hall t hm)⟩)
    (by kernel_rfl)
#print axioms checkAlone_card
end Go.Proofs.YtjaclmoobfeikaaGreatDoor
