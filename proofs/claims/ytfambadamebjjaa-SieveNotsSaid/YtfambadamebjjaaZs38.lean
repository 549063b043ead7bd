import Derived.Test.YtfambadamebjjaaZs37
import Derived.Test.YtfambadamebjjaaZs14
import Derived.Maps.OwnSet
import Derived.Maps.OwnIn
import Derived.Maps.Views
import Derived.Carry
import Derived.Test.YtfambadamebjjaaZs12
set_option linter.unusedSimpArgs false
set_option linter.unusedVariables false
namespace Go.Proofs.Ytfambadamebjjaa
open Go.RowKit
set_option linter.unusedVariables false
def colN (M : ByteArray) : List Cl → Nat
 | [] => 0
 | c :: r => if c.n = M then 0 else colN M r + 1
theorem colN_hit (M : ByteArray) : ∀ (l : List Cl) (k : Nat), k < l.length → (∀ j, j < k → (l.getD j default).n ≠ M) → (l.getD k default).n = M → colN M l = k
 | [], k, hk, _, _ => by simp at hk
 | c :: r, 0, _, _, h => by unfold colN; exact if_pos h
 | c :: r, k + 1, hk, hj, h => by
  unfold colN
  rw [if_neg (show c.n ≠ M from hj 0 (Nat.succ_pos _)), colN_hit M r k (by simpa using hk) (fun j hjk => hj (j + 1) (by omega)) h]
theorem colN_none (M : ByteArray) : ∀ (l : List Cl), (∀ j, j < l.length → (l.getD j default).n ≠ M) → colN M l = l.length
 | [], _ => rfl
 | c :: r, h => by
  unfold colN
  rw [if_neg (show c.n ≠ M from h 0 (by simp)), colN_none M r (fun j hj => h (j + 1) (by simpa using hj))]
  rfl
def colR (M : ByteArray) (l : List Cl) : Int := if colN M l < l.length then (colN M l : Int) else -1
def kdS (M : ByteArray) (l : List Cl) : Option Int := if colN M l < l.length then some (l.getD (colN M l) default).k else none
theorem ColsAt.at1 {w : World} {o : Obj} {a : Option Addr} {l : List Cl} (h : ColsAt w.heap.size w a l) {i : Nat} (hi : i < l.length) : ∃ b off, a = some ⟨b, off, none⟩ ∧ b < w.heap.size ∧ (w.alloc o).cell? ⟨b, off + i * 3, none⟩ = some (.string (l.getD i default).n) ∧ (w.alloc o).cell? ⟨b, off + i * 3 + 1, none⟩ = some (.int .i64 (l.getD i default).k) :=
 have hg := World.grownBy_alloc w o none
 (fun ⟨b, off, e, hlt, c0, c1, _⟩ => ⟨b, off, e, hlt, hg.cell c0 (by simp), hg.cell c1 (by simp)⟩) (h.at hi)
set_option maxRecDepth 100000 in
theorem refColumn_any (N : ByteArray) (a : Option Addr) (cap : Nat) (l : List Cl) (K : Int) (M : ByteArray) (w : World) (h : ColsAt w.heap.size w a l) :
  Calls Try.prog 19 #[.agg #[.string N, .slice a l.length cap, .int .i64 K], .string M] w fun e w' => e = .returned (.int .i64 (colR M l)) ∧ w.grownBy w' none := by
 have hK := Lib.hid (fun i (hi : i < l.length) => h.at1 (o := .cells #[.string N, .slice a l.length cap, .int .i64 K] 24) hi)
 obtain ⟨q0, q1, q2⟩ : (w.alloc (.cells #[.string N, .slice a l.length cap, .int .i64 K] 24)).cell? ⟨w.heap.size, 0, none⟩ = some (.string N) ∧ (w.alloc (.cells #[.string N, .slice a l.length cap, .int .i64 K] 24)).cell? ⟨w.heap.size, 1, none⟩ = some (.slice a l.length cap) ∧ True := ⟨by rw [cell_of_row _ _ 0 _ _ _ (alc1 w _)]; rfl, by rw [cell_of_row _ _ 1 _ _ _ (alc1 w _)]; rfl, trivial⟩
 have G1 := Lib.hid (gq_al (grown_reflT w none) (.cells #[.string N, .slice a l.length cap, .int .i64 K] 24))
 have HR : Hid (∀ k, k < l.length → (∀ j, j < k → (l.getD j default).n ≠ M) → (l.getD k default).n = M → colR M l = k) := Lib.hid (fun k hk h1 h2 => by unfold colR; rw [colN_hit M l k hk h1 h2, if_pos hk])
 have HN : Hid ((∀ j, j < l.length → (l.getD j default).n ≠ M) → colR M l = -1) := Lib.hid (fun h1 => by unfold colR; rw [colN_none M l h1, if_neg (Nat.lt_irrefl _)])
 generalize colR M l = res at *
 have hmax := h.1
 generalize hn : l.length = n at *
 clear h hn
 go_enter Try.func19, Try.ntmps19
 go_wp2_with fail
 generalize w.alloc (.cells #[.string N, .slice a n cap, .int .i64 K] 24) = w1 at *
 go_loopw [9] (fun s9 wr => ∃ i : Nat, s9 = .int .i64 i ∧ i ≤ n ∧ Hid (w1.grownBy wr none) ∧ Hid (∀ j, j < i → (l.getD j default).n ≠ M)) (fun s9 _ => n - (intOf s9).toNat)
 case atStart => exact ⟨0, rfl, Nat.zero_le _, Lib.hid (grown_reflT _ _), Lib.hid (fun j hj => by omega)⟩
 case round =>
  obtain ⟨i, rfl, hi, KG, HJ⟩ := hrel
  have GR := Lib.hid (G1.out.trans KG.out)
  have q0r := KG.out.cell q0 (by simp)
  have q1r := KG.out.cell q1 (by simp)
  by_cases hlt : i < n
  ·obtain ⟨b, off, rfl, hb, d0, d1⟩ := hK.out i hlt
   have c0 := KG.out.cell d0 (by simp)
   obtain ⟨x, hx⟩ : ∃ x, x = (l.getD i default).n := ⟨_, rfl⟩
   rw [← hx] at c0
   have HX := Lib.hid hx
   clear d0 d1 q0 q1 hx
   have i0 : (0 : Int) ≤ i := by omega
   have i1 : (i : Int) < n := by omega
   by_cases he : x = M
   ·obtain rfl := HR.out i hlt HJ.out (HX.out.symm.trans he)
    have k1 : (x.toList == M.toList) = true := by rw [str_dec]; exact decide_eq_true he
    clear he
    go_wp2_with fail
    go_ret
    exact ⟨rfl, GR.out⟩
   ·have k1 : (x.toList == M.toList) = false := by rw [str_dec]; exact decide_eq_false he
    have HJ2 : Hid (∀ j, j < i + 1 → (l.getD j default).n ≠ M) := Lib.hid (fun j hj => by
     by_cases e : j = i
     ·rw [e, ← HX.out]; exact he
     ·exact HJ.out j (by omega))
    clear he
    go_wp2_with fail
    go_roundw
    case rel => exact ⟨i + 1, by go_num, by omega, KG, HJ2⟩
    case measure => simp [intOf]; omega
  ·obtain rfl : i = n := by omega
   obtain rfl := HN.out HJ.out
   go_wp2_with fail
   go_ret
   exact ⟨rfl, GR.out⟩
end Go.Proofs.Ytfambadamebjjaa
namespace Go.Proofs.Ytfambadamebjjaa
open Go.RowKit
set_option linter.unusedVariables false
def kdV (o : Option Int) : Int := o.getD 0
set_option maxRecDepth 100000 in
theorem refKind_any (N : ByteArray) (a : Option Addr) (cap : Nat) (l : List Cl) (K : Int) (M : ByteArray) (w : World) (h : ColsAt w.heap.size w a l) :
  Calls Try.prog 76 #[.agg #[.string N, .slice a l.length cap, .int .i64 K], .string M] w fun e w' => e = .returned (.tuple #[.int .i64 (kdV (kdS M l)), .bool (kdS M l).isSome]) ∧ w.grownBy w' none := by
 have g1 := World.grownBy_alloc w (.cells #[.string N, .slice a l.length cap, .int .i64 K] 24) none
 have HC := Lib.hid (refColumn_any N a cap l K M (w.alloc (.cells #[.string N, .slice a l.length cap, .int .i64 K] 24)) ((h.keep g1 (by simp)).mono (by simp)))
 have A1 := Lib.hid (alc1 w (.cells #[.string N, .slice a l.length cap, .int .i64 K] 24))
 have HA := Lib.hid (fun i (hi : i < l.length) => h.at hi)
 have hmax := h.1
 have G1 := Lib.hid g1
 clear g1 h
 by_cases hk : colN M l < l.length
 ·have hr : colR M l = (colN M l : Int) := by unfold colR; rw [if_pos hk]
  have hK : kdS M l = some (l.getD (colN M l) default).k := by unfold kdS; rw [if_pos hk]
  rw [hr] at HC
  rw [hK]
  obtain ⟨b, off, rfl, hb, d0, d1, _⟩ := HA.out _ hk
  generalize (l.getD (colN M l) default).k = kk at *
  generalize colN M l = i at *
  have c1 := G1.out.cell d1 (by simp)
  have C1 := Lib.hid c1
  generalize hn : l.length = n at *
  clear d0 d1 hr hK HA hn c1
  have i0 : (0 : Int) ≤ i := by omega
  have i1 : (i : Int) < n := by omega
  have i2 : ¬ (i : Int) < 0 := by omega
  go_enter Try.func76, Try.ntmps76
  obtain ⟨⟨v0, v1, v2⟩, e0, e1, e2⟩ := boxD3 A1.out
  go_wp2_with fail
  refine (HC.out).mono ?_
  rintro e w2 ⟨rfl, hg⟩
  have A2 := Lib.hid (blkD hg A1.out)
  have c1 := hg.cell C1.out (by simp)
  have G2 := Lib.hid (G1.out.trans hg)
  clear hg v0 v1 v2 e0 e1 e2
  obtain ⟨⟨v0, v1, v2⟩, e0, e1, e2⟩ := boxD3 A2.out
  go_wp2_with fail
  go_ret2
  exact ⟨rfl, G2.out⟩
 ·have hr : colR M l = -1 := by unfold colR; rw [if_neg hk]
  have hK : kdS M l = none := by unfold kdS; rw [if_neg hk]
  rw [hr] at HC
  rw [hK]
  generalize hn : l.length = n at *
  clear hr hK hk HA hn
  go_enter Try.func76, Try.ntmps76
  obtain ⟨⟨v0, v1, v2⟩, e0, e1, e2⟩ := boxD3 A1.out
  go_wp2_with fail
  refine (HC.out).mono ?_
  rintro e w2 ⟨rfl, hg⟩
  have G2 := Lib.hid (G1.out.trans hg)
  clear hg v0 v1 v2 e0 e1 e2
  go_wp2_with fail
  go_ret2
  exact ⟨rfl, G2.out⟩
def oneC (a b : Int) : Int := if a ≠ 0 ∧ b ≠ 0 ∧ a ≠ b then 16 else 0
set_option maxRecDepth 100000 in
theorem refOne_any (a b : Int) (w : World) :
  Calls Try.prog 77 #[.int .i64 a, .int .i64 b] w fun e w' => e = .returned (.int .i64 (oneC a b)) ∧ w.grownBy w' none := by
 obtain ⟨r, hr⟩ : ∃ r, r = oneC a b := ⟨_, rfl⟩
 rw [← hr]
 have HR := Lib.hid hr
 clear hr
 by_cases ha : a = 0
 ·have k1 : (a != 0) = false := by rw [ha]; rfl
  have h0 : r = 0 := by rw [HR.out]; unfold oneC; rw [if_neg (by simp [ha])]
  clear ha HR
  subst h0
  go_enter Try.func77, Try.ntmps77
  go_wp2_with fail
  go_ret
  exact ⟨rfl, grown_reflT _ _⟩
 ·have k1 : (a != 0) = true := by rw [bne_iff_ne]; exact ha
  by_cases hb : b = 0
  ·have k2 : (b != 0) = false := by rw [hb]; rfl
   have h0 : r = 0 := by rw [HR.out]; unfold oneC; rw [if_neg (by simp [hb])]
   clear ha hb HR
   subst h0
   go_enter Try.func77, Try.ntmps77
   go_wp2_with fail
   go_ret
   exact ⟨rfl, grown_reflT _ _⟩
  ·have k2 : (b != 0) = true := by rw [bne_iff_ne]; exact hb
   by_cases hc : a = b
   ·have k3 : (a != b) = false := by rw [hc]; simp
    have h0 : r = 0 := by rw [HR.out]; unfold oneC; rw [if_neg (by simp [hc])]
    clear ha hb hc HR
    subst h0
    go_enter Try.func77, Try.ntmps77
    go_wp2_with fail
    go_ret
    exact ⟨rfl, grown_reflT _ _⟩
   ·have k3 : (a != b) = true := by rw [bne_iff_ne]; exact hc
    have h0 : r = 16 := by rw [HR.out]; unfold oneC; rw [if_pos ⟨ha, hb, hc⟩]
    clear ha hb hc HR
    subst h0
    go_enter Try.func77, Try.ntmps77
    go_wp2_with fail
    go_ret
    exact ⟨rfl, grown_reflT _ _⟩
def okS (g : Nat) : Option Int → Int
 | none => 15
 | some k => if g = 3 ∧ k ≠ 2 then 16 else 0
def itemC (l : List Cl) (g : Nat) (c : ByteArray) : Int := if g = 1 then 0 else okS g (kdS c l)
set_option maxRecDepth 100000 in
theorem refItem_any (N : ByteArray) (a : Option Addr) (cap : Nat) (l : List Cl) (K : Int) (g : Nat) (c : ByteArray) (p : Nat) (w : World) (h : ColsAt w.heap.size w a l) :
  Calls Try.prog 55 #[.agg #[.string N, .slice a l.length cap, .int .i64 K], .agg #[.int .i64 (g : Nat), .string c, .int .i64 (p : Nat)]] w fun e w' => (∃ k : Int, e = .returned (.tuple #[.int .i64 k, .int .i64 (itemC l g c)])) ∧ w.grownBy w' none := by
 have g1 := gq_al (gq_al (grown_reflT w none) (.cells #[.string N, .slice a l.length cap, .int .i64 K] 24)) (.cells #[.int .i64 (g : Nat), .string c, .int .i64 (p : Nat)] 106)
 have HC := Lib.hid (refKind_any N a cap l K c _ ((h.keep g1 (by simp)).mono g1.size))
 have A1 := Lib.hid (alc2a w (.cells #[.string N, .slice a l.length cap, .int .i64 K] 24) (.cells #[.int .i64 (g : Nat), .string c, .int .i64 (p : Nat)] 106))
 have B1 := Lib.hid (alc2b w (.cells #[.string N, .slice a l.length cap, .int .i64 K] 24) (.cells #[.int .i64 (g : Nat), .string c, .int .i64 (p : Nat)] 106))
 have G1 := Lib.hid g1
 obtain ⟨r, hr⟩ : ∃ r, r = itemC l g c := ⟨_, rfl⟩
 rw [← hr]
 have HR := Lib.hid hr
 unfold itemC at HR
 generalize kdS c l = ok at *
 generalize hn : l.length = n at *
 clear g1 h hr hn
 by_cases h1 : g = 1
 ·have k1 : ((g : Int) == 1) = true := by rw [h1]; rfl
  have h0 : r = 0 := by rw [HR.out, if_pos h1]
  clear h1 HR
  subst h0
  go_enter Try.func55, Try.ntmps55
  obtain ⟨⟨v0, v1, v2⟩, e0, e1, e2⟩ := boxD3 B1.out
  go_wp2_with fail
  go_ret2
  exact ⟨⟨_, rfl⟩, G1.out⟩
 ·have k1 : ((g : Int) == 1) = false := by rw [beq_eq_false_iff_ne]; omega
  have h01 : r = okS g ok := by rw [HR.out, if_neg h1]
  clear HR
  cases ok with
  | none =>
   obtain rfl : r = 15 := h01
   clear h1
   go_enter Try.func55, Try.ntmps55
   obtain ⟨⟨v0, v1, v2⟩, e0, e1, e2⟩ := boxD3 B1.out
   obtain ⟨⟨p0, p1, p2⟩, q0, q1, q2⟩ := boxD3 A1.out
   go_wp2_with fail
   refine (HC.out).mono ?_
   rintro e w2 ⟨rfl, hg⟩
   have G2 := Lib.hid (G1.out.trans hg)
   clear hg v0 v1 v2 e0 e1 e2 p0 p1 p2 q0 q1 q2
   go_wp2_with fail
   go_ret2
   exact ⟨⟨_, rfl⟩, G2.out⟩
  | some k =>
   replace h01 : r = if g = 3 ∧ k ≠ 2 then 16 else 0 := h01
   have H01 := Lib.hid h01
   clear h01 h1
   simp only [kdV, Option.getD_some, Option.isSome_some] at HC
   by_cases h3 : g = 3
   ·have k3 : ((g : Int) == 3) = true := by rw [h3]; rfl
    have k32 : ((g : Int) == 2) = false := by rw [h3]; rfl
    have H3 := Lib.hid h3
    clear h3
    by_cases h2 : k = 2
    ·have k2 : (k != 2) = false := by rw [h2]; rfl
     have h0 : r = 0 := by rw [H01.out, if_neg (by simp [h2])]
     clear h2 H01
     subst h0
     go_enter Try.func55, Try.ntmps55
     obtain ⟨⟨v0, v1, v2⟩, e0, e1, e2⟩ := boxD3 B1.out
     obtain ⟨⟨p0, p1, p2⟩, q0, q1, q2⟩ := boxD3 A1.out
     go_wp2_with fail
     refine (HC.out).mono ?_
     rintro e w2 ⟨rfl, hg⟩
     have B2 := Lib.hid (blkD hg B1.out)
     have G2 := Lib.hid (G1.out.trans hg)
     clear hg v0 v1 v2 e0 e1 e2 p0 p1 p2 q0 q1 q2
     obtain ⟨⟨v0, v1, v2⟩, e0, e1, e2⟩ := boxD3 B2.out
     go_wp2_with fail
     go_ret2
     exact ⟨⟨_, rfl⟩, G2.out⟩
    ·have k2 : (k != 2) = true := by rw [bne_iff_ne]; exact h2
     have h0 : r = 16 := by rw [H01.out, if_pos ⟨H3.out, h2⟩]
     clear h2 H01
     subst h0
     go_enter Try.func55, Try.ntmps55
     obtain ⟨⟨v0, v1, v2⟩, e0, e1, e2⟩ := boxD3 B1.out
     obtain ⟨⟨p0, p1, p2⟩, q0, q1, q2⟩ := boxD3 A1.out
     go_wp2_with fail
     refine (HC.out).mono ?_
     rintro e w2 ⟨rfl, hg⟩
     have B2 := Lib.hid (blkD hg B1.out)
     have G2 := Lib.hid (G1.out.trans hg)
     clear hg v0 v1 v2 e0 e1 e2 p0 p1 p2 q0 q1 q2
     obtain ⟨⟨v0, v1, v2⟩, e0, e1, e2⟩ := boxD3 B2.out
     go_wp2_with fail
     go_ret2
     exact ⟨⟨_, rfl⟩, G2.out⟩
   ·have k3 : ((g : Int) == 3) = false := by rw [beq_eq_false_iff_ne]; omega
    have h0 : r = 0 := by rw [H01.out, if_neg (by simp [h3])]
    clear h3 H01
    subst h0
    by_cases h2 : g = 2
    ·have k2 : ((g : Int) == 2) = true := by rw [h2]; rfl
     clear h2
     go_enter Try.func55, Try.ntmps55
     obtain ⟨⟨v0, v1, v2⟩, e0, e1, e2⟩ := boxD3 B1.out
     obtain ⟨⟨p0, p1, p2⟩, q0, q1, q2⟩ := boxD3 A1.out
     go_wp2_with fail
     refine (HC.out).mono ?_
     rintro e w2 ⟨rfl, hg⟩
     have B2 := Lib.hid (blkD hg B1.out)
     have G2 := Lib.hid (G1.out.trans hg)
     clear hg v0 v1 v2 e0 e1 e2 p0 p1 p2 q0 q1 q2
     obtain ⟨⟨v0, v1, v2⟩, e0, e1, e2⟩ := boxD3 B2.out
     go_wp2_with fail
     go_ret2
     exact ⟨⟨_, rfl⟩, G2.out⟩
    ·have k2 : ((g : Int) == 2) = false := by rw [beq_eq_false_iff_ne]; omega
     clear h2
     go_enter Try.func55, Try.ntmps55
     obtain ⟨⟨v0, v1, v2⟩, e0, e1, e2⟩ := boxD3 B1.out
     obtain ⟨⟨p0, p1, p2⟩, q0, q1, q2⟩ := boxD3 A1.out
     go_wp2_with fail
     refine (HC.out).mono ?_
     rintro e w2 ⟨rfl, hg⟩
     have B2 := Lib.hid (blkD hg B1.out)
     have G2 := Lib.hid (G1.out.trans hg)
     clear hg v0 v1 v2 e0 e1 e2 p0 p1 p2 q0 q1 q2
     obtain ⟨⟨v0, v1, v2⟩, e0, e1, e2⟩ := boxD3 B2.out
     go_wp2_with fail
     go_ret2
     exact ⟨⟨_, rfl⟩, G2.out⟩
end Go.Proofs.Ytfambadamebjjaa
namespace Go.Proofs.Ytfambadamebjjaa
open Go.RowKit
set_option linter.unusedVariables false
theorem tbS_size : (Try.prog.info? 24).map (·.size) = some 3 := by kernel_rfl
theorem results_tbS {fn : Func} {p u : Tmp} (h : fn.results = #[.cell p 24, .tmp u]) (tmps : Array Value) (w : World) (g : Nat) (cs : Array Value) (hcs : cs.size = 3) (hp : tmps.getD p undef = .pointer (some ⟨g, 0, none⟩)) (hg : w.heap[g]? = some (.cells cs 24 (0, 0))) :
  (results fn tmps).run Try.prog w = .ok (.tuple #[.agg cs, tmps.getD u undef]) w := by
 have hp' : tmps[p]?.getD undef = .pointer (some ⟨g, 0, none⟩) := by simpa using hp
 simp [results, h, hp', asAddr, run_loadVar_row w g 24 24 cs (0, 0) _ hg Try.underlying24 rfl (by rw [hcs]; exact tbS_size)]
def FndIs (l : List Tb) (M : ByteArray) (e : Ending) : Prop :=
 ((∀ j, j < l.length → (l.getD j default).n ≠ M) ∧ e = .returned (.tuple #[.agg #[.string ⟨#[]⟩, .slice none 0 0, .int .i64 0], .bool false])) ∨
  ∃ i, i < l.length ∧ (l.getD i default).n = M ∧ (∀ j, j < i → (l.getD j default).n ≠ M) ∧ e = .returned (.tuple #[.agg #[.string (l.getD i default).n, .slice (l.getD i default).a (l.getD i default).l.length (l.getD i default).cap, .int .i64 (l.getD i default).k], .bool true])
set_option maxRecDepth 100000 in
set_option maxHeartbeats 1600000 in
theorem refFind_any (a : Option Addr) (cap : Nat) (l : List Tb) (M : ByteArray) (w : World) (h : TabsAt w.heap.size w a l) :
  Calls Try.prog 41 #[.slice a l.length cap, .string M] w fun e w' => FndIs l M e ∧ w.grownBy w' none := by
 have G1 := Lib.hid (gq_al (grown_reflT w none) (.cells #[.string ⟨#[]⟩, .slice none 0 0, .int .i64 0] 24))
 have B1 := Lib.hid (heap_alloc_new w (.cells #[.string ⟨#[]⟩, .slice none 0 0, .int .i64 0] 24))
 have hK := Lib.hid (fun i (hi : i < l.length) => ((h.keep G1.out (by simp)).mono G1.out.size).at hi)
 have HF : Hid (∀ i, i < l.length → (∀ j, j < i → (l.getD j default).n ≠ M) → (l.getD i default).n = M → FndIs l M (.returned (.tuple #[.agg #[.string (l.getD i default).n, .slice (l.getD i default).a (l.getD i default).l.length (l.getD i default).cap, .int .i64 (l.getD i default).k], .bool true]))) := Lib.hid (fun i h0 h1 h2 => .inr ⟨i, h0, h2, h1, rfl⟩)
 have HN : Hid ((∀ j, j < l.length → (l.getD j default).n ≠ M) → FndIs l M (.returned (.tuple #[.agg #[.string ⟨#[]⟩, .slice none 0 0, .int .i64 0], .bool false]))) := Lib.hid (fun h1 => .inl ⟨h1, rfl⟩)
 generalize FndIs l M = Q at *
 have hmax := h.1
 generalize hn : l.length = n at *
 clear h hn
 go_enter Try.func41, Try.ntmps41
 go_upto_region 1 with fail
 generalize w.alloc (.cells #[.string ⟨#[]⟩, .slice none 0 0, .int .i64 0] 24) = w1 at *
 go_wp2_with fail
 go_loopw [9] (fun s9 wr => ∃ i : Nat, s9 = .int .i64 i ∧ i ≤ n ∧ Hid (w1.grownBy wr none) ∧ Hid (∀ j, j < i → (l.getD j default).n ≠ M)) (fun s9 _ => n - (intOf s9).toNat)
 case atStart => exact ⟨0, rfl, Nat.zero_le _, Lib.hid (grown_reflT _ _), Lib.hid (fun j hj => by omega)⟩
 case round =>
  obtain ⟨i, rfl, hi, KG, HJ⟩ := hrel
  have GR := Lib.hid (G1.out.trans KG.out)
  have B2 := Lib.hid (blkD KG.out B1.out)
  by_cases hlt : i < n
  ·obtain ⟨b, off, rfl, hb, d0, d1, d2⟩ := hK.out i hlt
   have c0 := KG.out.cell d0 (by simp)
   have c1 := KG.out.cell d1 (by simp)
   have c2 := KG.out.cell d2 (by simp)
   have HFi := Lib.hid (HF.out i hlt HJ.out)
   have HX : Hid ((l.getD i default).n ≠ M → ∀ j, j < i + 1 → (l.getD j default).n ≠ M) := Lib.hid (fun he j hj => by
     by_cases e : j = i
     ·rw [e]; exact he
     ·exact HJ.out j (by omega))
   generalize l.getD i default = t at *
   obtain ⟨tn, ta, tc, tl, tk⟩ := t
   dsimp only at *
   generalize tl.length = m at *
   have i0 : (0 : Int) ≤ i := by omega
   have i1 : (i : Int) < n := by omega
   clear d0 d1 d2 hK HF HJ B1
   by_cases he : tn = M
   ·have k1 : (tn.toList == M.toList) = true := by rw [str_dec]; exact decide_eq_true he
    have hf := HFi.out he
    clear he HFi HX
    have HFF := Lib.hid hf
    have e0 := cell_of_row _ _ 0 _ _ _ B2.out
    have e1 := cell_of_row _ _ 1 _ _ _ B2.out
    have e2 := cell_of_row _ _ 2 _ _ _ B2.out
    have f0 := frozen_of_row _ _ 0 _ _ B2.out
    have f1 := frozen_of_row _ _ 1 _ _ B2.out
    have f2 := frozen_of_row _ _ 2 _ _ B2.out
    have HR := Lib.hid (set3 (u0 := .string tn) (u1 := .slice ta m tc) (u2 := .int .i64 tk) B2.out)
    have HG := Lib.hid (grown_set3 GR.out (Nat.le_refl w.heap.size) (.string tn) (.slice ta m tc) (.int .i64 tk))
    clear hf
    go_wp2_with fail
    exact bodyPost_ret (v := .tuple #[.agg #[.string tn, .slice ta m tc, .int .i64 tk], .bool true]) (results_tbS (p := 4) (u := 5) rfl _ _ w.heap.size #[.string tn, .slice ta m tc, .int .i64 tk] rfl rfl HR.out) rfl ⟨HFF.out, HG.out⟩
   ·have k1 : (tn.toList == M.toList) = false := by rw [str_dec]; exact decide_eq_false he
    have HJ2 := Lib.hid (HX.out he)
    clear he HX HFi c1 c2
    go_wp2_with fail
    go_roundw
    case rel => exact ⟨i + 1, by go_num, by omega, KG, HJ2⟩
    case measure => simp [intOf]; omega
  ·obtain rfl : n = i := by omega
   have HFF := Lib.hid (HN.out HJ.out)
   have e0 := cell_of_row _ _ 0 _ _ _ B2.out
   have e1 := cell_of_row _ _ 1 _ _ _ B2.out
   have e2 := cell_of_row _ _ 2 _ _ _ B2.out
   have f0 := frozen_of_row _ _ 0 _ _ B2.out
   have f1 := frozen_of_row _ _ 1 _ _ B2.out
   have f2 := frozen_of_row _ _ 2 _ _ B2.out
   have HR := Lib.hid (set3 (u0 := .string ⟨#[]⟩) (u1 := .slice none 0 0) (u2 := .int .i64 0) B2.out)
   have HG := Lib.hid (grown_set3 GR.out (Nat.le_refl w.heap.size) (.string ⟨#[]⟩) (.slice none 0 0) (.int .i64 0))
   clear hK HF HJ HN
   go_wp2_with fail
   exact bodyPost_ret (v := .tuple #[.agg #[.string ⟨#[]⟩, .slice none 0 0, .int .i64 0], .bool false]) (results_tbS (p := 4) (u := 5) rfl _ _ w.heap.size #[.string ⟨#[]⟩, .slice none 0 0, .int .i64 0] rfl rfl HR.out) rfl ⟨HFF.out, HG.out⟩
end Go.Proofs.Ytfambadamebjjaa
namespace Go.Proofs.Ytfambadamebjjaa
open Go.RowKit Go.Shelf
attribute [local go_sem] Oper.semAt_some

theorem sv_key : Go.Maps.Keyed Try.prog 9 := Go.Maps.string_keyed Try.underlying9
theorem sv_zero (w : World) : (zeroValue 3).run Try.prog w = .ok (.int .i64 0) w := by kernel_rfl
abbrev svKey (M : ByteArray) : Lit := .string M.data.toList
theorem svKey_of {M : ByteArray} (h : M.size ≤ maxLen) : keyOf Try.prog 9 (.string M) = some (svKey M) := Go.WideMaps.keyOf_string_mk Try.underlying9 h
theorem svKey_ne {M N : ByteArray} (h : M ≠ N) : svKey M ≠ svKey N := fun e => h (by
 have h2 : M.data.toList = N.data.toList := by injection e
 cases M; cases N; congr 1; exact Array.toList_inj.1 h2)
def numD (l : List (Cl × Nat)) : DataW Unit := l.foldl (fun D x => D.put (svKey x.1.n) (.lit (.int .i64 (x.2 : Nat)))) (.map [])
def numC (pre : List ColI) : DataW Unit := numD (pre.map (·.1))
theorem numD_snoc (l : List (Cl × Nat)) (x : Cl × Nat) : numD (l ++ [x]) = (numD l).put (svKey x.1.n) (.lit (.int .i64 (x.2 : Nat))) := by simp [numD]
theorem numD_spec : ∀ (cs : List Cl) (i : Nat), Go.Maps.IsMap (numD (cs.zipIdx i).reverse) ∧ ∀ M : ByteArray, Go.Maps.has (numD (cs.zipIdx i).reverse) (svKey M) = decide (colN M cs < cs.length) ∧ (colN M cs < cs.length → ∀ z, (numD (cs.zipIdx i).reverse).atKey (svKey M) z = .lit (.int .i64 ((i + colN M cs : Nat) : Int)))
 | [], i => ⟨Go.Maps.isMap_empty, fun M => ⟨by simp [numD, colN, Go.Maps.has], fun h => by simp [colN] at h⟩⟩
 | c :: r, i => by
  obtain ⟨h1, h2⟩ := numD_spec r (i + 1)
  rw [List.zipIdx_cons, List.reverse_cons, numD_snoc]
  refine ⟨h1.put _ _, fun M => ?_⟩
  by_cases e : c.n = M
  ·subst e
   have e0 : colN c.n (c :: r) = 0 := by unfold colN; rw [if_pos rfl]
   rw [e0, Go.Maps.has_put_same h1 (k := svKey c.n) trivial]
   refine ⟨by simp, fun _ z => ?_⟩
   rw [Go.Maps.atKey_put_same h1 (k := svKey c.n) trivial, Nat.add_zero]
  ·have e0 : colN M (c :: r) = colN M r + 1 := by show (if c.n = M then 0 else colN M r + 1) = _; rw [if_neg e]
   rw [e0, Go.Maps.has_put_other (svKey_ne (Ne.symm e)), (h2 M).1]
   refine ⟨by simp, fun hlt z => ?_⟩
   rw [Go.Maps.atKey_put_other (svKey_ne (Ne.symm e)), (h2 M).2 (by simpa using hlt) z, show i + 1 + colN M r = i + (colN M r + 1) by omega]
def MapC (W : World) (b : Nat) (cs : List Cl) : Prop := ∃ n D, W.ownsMap Try.prog 9 (plainElem (H := Unit) Try.prog 3) b n D ∧ ∀ M : ByteArray, Go.Maps.has D (svKey M) = decide (colN M cs < cs.length) ∧ (colN M cs < cs.length → ∀ z, D.atKey (svKey M) z = .lit (.int .i64 (colN M cs : Nat)))
theorem MapC.kept {W W' : World} {b : Nat} {cs : List Cl} (h : MapC W b cs) (hg : W.grownBy W' none) : MapC W' b cs := by
 obtain ⟨n, D, h1, h2⟩ := h
 exact ⟨n, D, h1.kept hg (by simp), h2⟩
theorem KpB_b {Bs n₀ : Nat} {w : World} (hn : n₀ ≤ w.heap.size) (hB : Bs < w.heap.size) (W : World) (l : Nat) (o o' : Obj) (hl : w.heap.size ≤ l) (h : W.heap[l]? = some o) (hc : o.isCells = false) (hk : o.isWalk = false) : KpB Bs n₀ W (W.putObj l o') :=
 ⟨belowK_b hn W l o o' hl h hc hk, (grownBy_putObj' W l o').block Bs (by have := (Array.getElem?_eq_some_iff.1 h).1; omega) (fun e => by cases e; omega)⟩
set_option maxRecDepth 100000 in
set_option maxHeartbeats 4000000 in
theorem numbered_any (TN : ByteArray) (ta : Option Addr) (tcap : Nat) (cs : List Cl) (TK : Int) (w : World) (hC : ColsAt w.heap.size w ta cs) (hs : ∀ c ∈ cs, c.n.size ≤ maxLen) (hl : cs.length ≤ 100000) :
  Calls Try.prog 48 #[.agg #[.string TN, .slice ta cs.length tcap, .int .i64 TK]] w fun e w' => (∃ b, e = .returned (.map (some b)) ∧ MapC w' b cs) ∧ w.grownBy w' none := by
 refine (callsIn_wide (n := 3)).1 ?_
 obtain ⟨xs, hxs⟩ := cols_list cs hs hl
 have hxl : xs.length = cs.length := by have := congrArg List.length hxs; simpa using this
 have hmm := @run_makeMap Try.prog
 refine callsIn_of_wp_marks Try.func48 rfl trivial ?_ rfl
 simp only [Try.ntmps48, List.size_toArray, List.length_cons, List.length_nil, Nat.reduceAdd, Nat.reduceSub, Array.replicate_succ, Array.replicate_zero, List.push_toArray, List.append_toArray, List.nil_append, List.cons_append]
 gi_wp2_with (refine ⟨trivial, ?_⟩; gi_at_call 62; refine (back_in Fence.wide 2 trivial rfl _ _ _ _).mono ?_; rintro e w' ⟨rfl, rfl⟩)
 obtain ⟨W0, hW0⟩ : ∃ W0, W0 = (((w.alloc (.cells #[.string TN, .slice ta cs.length tcap, .int .i64 TK] 24)).alloc (.map #[] 0)).alloc (.cells #[.map (some (w.heap.size + 1))] 69)).alloc (.cells #[.slice ta cs.length tcap] 22) := ⟨_, rfl⟩
 have hs0 : W0.heap.size = w.heap.size + 4 := by rw [hW0]; simp
 have hB0 : Below w.heap.size w W0 := by rw [hW0]; exact ((((Below.refl _ w).alloc (Nat.le_refl _) _).alloc (by simp) _).alloc (by simp; omega) _).alloc (by simp; omega) _
 have hO0 : W0.ownsMap Try.prog 9 (plainElem (H := Unit) Try.prog 3) (w.heap.size + 1) 0 (.map []) := by
  rw [hW0]
  have := World.ownsMap_made (w.alloc (.cells #[.string TN, .slice ta cs.length tcap, .int .i64 TK] 24)) Try.prog 9 (plainElem (H := Unit) Try.prog 3)
  rw [World.size_alloc] at this
  exact (this.alloc _).alloc _
 have hX0 : Boxed W0 (w.heap.size + 1 + 1) 69 (.map (some (w.heap.size + 1))) := by
  rw [hW0]
  have := Boxed.new ((w.alloc (.cells #[.string TN, .slice ta cs.length tcap, .int .i64 TK] 24)).alloc (.map #[] 0)) 69 (.map (some (w.heap.size + 1)))
  simp only [World.size_alloc] at this
  exact this.kept (World.grownBy_alloc _ _ none) (by simp)
 have hS0 : W0.heap[w.heap.size + 1 + 1 + 1]? = some (.cells #[.slice ta cs.length tcap] 22 (0, 0)) := by
  rw [hW0]
  have := World.alloc_heap_new (((w.alloc (.cells #[.string TN, .slice ta cs.length tcap, .int .i64 TK] 24)).alloc (.map #[] 0)).alloc (.cells #[.map (some (w.heap.size + 1))] 69)) (.cells #[.slice ta cs.length tcap] 22)
  simp only [World.size_alloc] at this
  exact this
 have hC0 : ColsAt w.heap.size W0 ta cs := ⟨hC.1, hC.2.imp id fun ⟨b, off, e, hb, hc⟩ => ⟨b, off, e, hb, fun i hi => ⟨(hB0.cell (p := ⟨b, _, none⟩) hb).trans (hc i hi).1, (hB0.cell (p := ⟨b, _, none⟩) hb).trans (hc i hi).2.1, (hB0.cell (p := ⟨b, _, none⟩) hb).trans (hc i hi).2.2⟩⟩⟩
 rw [← hW0]
 clear hW0 hmm
 refine wpIn_rangeFunc_ownH rfl (by decide) (gf := 78) (lb := #[.pointer (some ⟨w.heap.size + 1 + 1 + 1, 0, none⟩)]) rfl trivial (enters_of Try.func78 (by kernel_rfl) rfl)
  (back_stops Fence.wide 2 trivial rfl (by decide) (w.heap.size + 1 + 1 + 1) w.heap.size ta tcap cs hl xs hxs W0 (by omega) hS0 hC0) KpB.trans (KpB_b (by omega) (by omega)) (Below.refl _ _) (fun _ => rfl)
  (fun pre W => (Boxed W (w.heap.size + 1 + 1) 69 (.map (some (w.heap.size + 1))) ∧ W.ownsMap Try.prog 9 (plainElem (H := Unit) Try.prog 3) (w.heap.size + 1) pre.length (numC pre) ∧ w.heap.size + 4 ≤ W.heap.size) ∧ Below w.heap.size w W)
  (fun _ _ _ => False)
  (OwnFrom.and (fun s A B row hs hg hr => ⟨hs.1.kept hg (fun e => by have := (hr _ e.symm).1; omega), hs.2.1.kept hg (fun e => by have := (hr _ e.symm).1; omega), Nat.le_trans hs.2.2 hg.size⟩) (ownFrom_below (Nat.le_refl _) (by omega)))
  (fun _ _ _ _ _ hs _ _ => hs)
  ⟨⟨hX0, hO0, by omega⟩, hB0⟩
  (fun x a' W => ∃ Bx, W.heap[Bx]? = some (.cells #[.string x.1.1.n, .int .i64 x.1.1.k, .bool x.1.1.b] 103 (0, 0)) ∧ a' = { tmps := #[.agg #[.string TN, .slice ta cs.length tcap, .int .i64 TK], .pointer (some ⟨w.heap.size, 0, none⟩), .map none, .pointer (some ⟨w.heap.size + 1 + 1, 0, none⟩), .int .i64 (x.1.2 : Nat), .pointer (some ⟨Bx, 0, none⟩), .map (some (w.heap.size + 1)), .pointer (some ⟨w.heap.size, 1, none⟩), .slice ta cs.length tcap, .func (.func 78) #[] #[.pointer (some ⟨w.heap.size + 1 + 1 + 1, 0, none⟩)], .int .i64 (x.1.2 : Nat), .agg #[.string x.1.1.n, .int .i64 x.1.1.k, .bool x.1.1.b], undef, undef, undef, undef, undef], defers := [] })
  (fun x a' s X Y row hs hg hr => by
   obtain ⟨Bx, h1, h2⟩ := hs
   exact ⟨Bx, (hg.block Bx (Array.getElem?_eq_some_iff.1 h1).1 (fun e => by obtain ⟨_, o, ho, hc⟩ := hr Bx e.symm; rw [h1] at ho; cases ho; cases hc)).trans h1, h2⟩)
  ?assign ?body ?done ?stop
 case assign =>
  rintro l pre x W K ⟨⟨h1, h2, h3⟩, h4⟩ hK
  unfold encC
  gi_wp2
  exact hK _ _ ((KeepsOthers.alloc _ _).from _) ⟨(Below.refl _ W).alloc h4.size _, (World.grownBy_alloc W _ none).block _ (by omega) (by simp)⟩ ⟨⟨h1.kept (World.grownBy_alloc W _ none) (by simp), h2.alloc _, by simp; omega⟩, h4.alloc h4.size _⟩ ⟨_, World.alloc_heap_new W _, rfl⟩
 case body =>
  rintro l pre x a' W hl' ⟨r, hr⟩ ⟨⟨h1, h2, h3⟩, h4⟩ ⟨Bx, hBx, rfl⟩ hlt
  have c0 := h1.cell
  have c1 : W.cell? ⟨Bx, 0, none⟩ = some (.string x.1.1.n) := by simp [World.cell?, hBx]
  gi_wp2_with (gi_at_mapUpdate; refine wpListIn_mapUpdate_own _ rfl _ _ _ 69 rfl 9 3 sv_key Try.underlying69 _ (w.heap.size + 1) pre.length _ rfl h2 (by unfold maxLen; omega) _ _ _ rfl rfl (svKey_of x.2.2) _ [] (plainElem_int Try.underlying3 (WalkArith.wf_i64 (by have := x.2.1; omega))) ?_; intro w1 hown1 hgrow1)
  refine ⟨KeepsFrom.of_grownBy hgrow1 (fun j e => by cases e; omega), ⟨(Below.refl _ W).grown hgrow1 h4.size (fun k e => by cases e; omega), hgrow1.block _ (by omega) (fun e => by have := Option.some.inj e; omega)⟩, ⟨h1.kept hgrow1 (fun e => by have := Option.some.inj e; omega), ?_, Nat.le_trans h3 hgrow1.size⟩, h4.grown hgrow1 h4.size (fun k e => by cases e; omega)⟩
  unfold numC
  rw [List.map_append, List.length_append]
  show w1.ownsMap _ _ _ _ _ (numD (pre.map (·.1) ++ [x.1]))
  rw [numD_snoc]
  exact hown1
 case done =>
  rintro D ys W hD rfl ⟨⟨h1, h2, h3⟩, h4⟩ hK
  have c0 := h1.cell
  gi_wp2
  refine ⟨by simp, .inl ⟨_, _, rfl, run_takeDeferred hK, ?_⟩⟩
  refine ⟨_, results_tmp rfl _ _ _, ⟨_, rfl, ys.length, _, h2.kept (grownBy_putObj' W D _) (fun e => by cases e; omega), ?_⟩, ?_⟩
  ·unfold numC
   rw [hxs]
   intro M
   have := (numD_spec cs 0).2 M
   rw [show (cs.zipIdx 0) = cs.zipIdx from rfl] at this
   simpa using this
  ·exact grown_belowX (h4.trans (belowK_b (w := w) (Nat.le_refl _) W D _ _ (by omega) hK rfl rfl)) none
 case stop =>
  rintro D c pre W _ _ h _
  exact h.elim
end Go.Proofs.Ytfambadamebjjaa
