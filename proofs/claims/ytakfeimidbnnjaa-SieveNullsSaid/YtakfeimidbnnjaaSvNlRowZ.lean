/- The texts of SieveNulls: what is read of them, that Query surely takes them, what their truths are. The law SieveNulls. PROVED: SieveNulls: at every input the call returns true and its arguments read as they did. No condition of our own. -/
import Derived.Test.YtakfeimidbnnjaaZs44
import Derived.Test.YtakfeimidbnnjaaRows
set_option linter.unusedSimpArgs false
set_option linter.unusedVariables false
namespace Go.Proofs.Ytakfeimidbnnjaa
open Go.RowKit
set_option linter.unusedVariables false
set_option linter.unusedSimpArgs false
def nuR : List ByteArray := [⟨#[61]⟩, ⟨#[60, 62]⟩, ⟨#[60]⟩, ⟨#[60, 61]⟩, ⟨#[62]⟩, ⟨#[62, 61]⟩]
def nuA (r : ByteArray) : ByteArray := ⟨#[97, 32]⟩ ++ r ++ ⟨#[32, 78, 85, 76, 76, 32, 79, 82, 32, 78, 85, 76, 76, 32]⟩ ++ r ++ ⟨#[32, 97]⟩
def nuB (r : ByteArray) : ByteArray := ⟨#[78, 79, 84, 32, 97, 32]⟩ ++ r ++ ⟨#[32, 78, 85, 76, 76]⟩
def nuC (r : ByteArray) : ByteArray := ⟨#[100, 32]⟩ ++ r ++ ⟨#[32, 97, 32, 79, 82, 32, 78, 79, 84, 32, 100, 32]⟩ ++ r ++ ⟨#[32, 97]⟩
def nuD : ByteArray := ⟨#[100, 32, 73, 83, 32, 78, 85, 76, 76]⟩
def nuE : ByteArray := ⟨#[100, 32, 73, 83, 32, 78, 79, 84, 32, 78, 85, 76, 76]⟩
def nuL (r p : Nat) : Prd := .mk 3 ⟨#[97]⟩ r ⟨0, 0, ⟨#[]⟩⟩ ⟨#[]⟩ [] [] p
def nuK (r p : Nat) : Prd := .mk 4 ⟨#[100]⟩ r ⟨0, 0, ⟨#[]⟩⟩ ⟨#[97]⟩ [] [] p
def cnA (r t p : Nat) : Prd := .mk 9 ⟨#[]⟩ 0 ⟨0, 0, ⟨#[]⟩⟩ ⟨#[]⟩ [] [nuL r 22, nuL t p] 22
def cnB (r : Nat) : Prd := .mk 10 ⟨#[]⟩ 0 ⟨0, 0, ⟨#[]⟩⟩ ⟨#[]⟩ [] [nuL r 26] 22
def cnC (r p p2 : Nat) : Prd := .mk 9 ⟨#[]⟩ 0 ⟨0, 0, ⟨#[]⟩⟩ ⟨#[]⟩ [] [nuK r 22, .mk 10 ⟨#[]⟩ 0 ⟨0, 0, ⟨#[]⟩⟩ ⟨#[]⟩ [] [nuK r p2] p] 22
def cnD : Prd := .mk 6 ⟨#[100]⟩ 0 ⟨0, 0, ⟨#[]⟩⟩ ⟨#[]⟩ [] [] 22
def cnE : Prd := .mk 7 ⟨#[100]⟩ 0 ⟨0, 0, ⟨#[]⟩⟩ ⟨#[]⟩ [] [] 22
def qnu (c : Prd) : Qry := ⟨[⟨0, ⟨#[97]⟩, 7⟩], false, ⟨#[116]⟩, c, [], [], -1⟩
theorem able_nu {s : ByteArray} {c : Prd} (h : parseL (preA s) = .ok (qnu c)) (hs : (preA s).size ≤ 1500) (hc : predC catC c = 0) (a : Ptr) : Able (preA s) (catT a) := able_of h hs rfl rfl rfl rfl hc a
def NuOk (s : ByteArray) (c : Prd) : Prop := parseL (preA s) = .ok (qnu c) ∧ s.size ≤ 1000 ∧ ∀ a, Able (preA s) (catT a)
set_option maxRecDepth 100000 in
theorem okA0 : NuOk (nuA ⟨#[61]⟩) (cnA 1 1 34) := ⟨by kernel_rfl, by decide +kernel, able_nu (c := cnA 1 1 34) (by kernel_rfl) (by decide +kernel) (by decide +kernel)⟩
set_option maxRecDepth 100000 in
theorem okB0 : NuOk (nuB ⟨#[61]⟩) (cnB 1) := ⟨by kernel_rfl, by decide +kernel, able_nu (c := cnB 1) (by kernel_rfl) (by decide +kernel) (by decide +kernel)⟩
set_option maxRecDepth 100000 in
theorem okC0 : NuOk (nuC ⟨#[61]⟩) (cnC 1 31 35) := ⟨by kernel_rfl, by decide +kernel, able_nu (c := cnC 1 31 35) (by kernel_rfl) (by decide +kernel) (by decide +kernel)⟩
set_option maxRecDepth 100000 in
theorem okA1 : NuOk (nuA ⟨#[60, 62]⟩) (cnA 2 2 35) := ⟨by kernel_rfl, by decide +kernel, able_nu (c := cnA 2 2 35) (by kernel_rfl) (by decide +kernel) (by decide +kernel)⟩
set_option maxRecDepth 100000 in
theorem okB1 : NuOk (nuB ⟨#[60, 62]⟩) (cnB 2) := ⟨by kernel_rfl, by decide +kernel, able_nu (c := cnB 2) (by kernel_rfl) (by decide +kernel) (by decide +kernel)⟩
set_option maxRecDepth 100000 in
theorem okC1 : NuOk (nuC ⟨#[60, 62]⟩) (cnC 2 32 36) := ⟨by kernel_rfl, by decide +kernel, able_nu (c := cnC 2 32 36) (by kernel_rfl) (by decide +kernel) (by decide +kernel)⟩
set_option maxRecDepth 100000 in
theorem okA2 : NuOk (nuA ⟨#[60]⟩) (cnA 3 5 34) := ⟨by kernel_rfl, by decide +kernel, able_nu (c := cnA 3 5 34) (by kernel_rfl) (by decide +kernel) (by decide +kernel)⟩
set_option maxRecDepth 100000 in
theorem okB2 : NuOk (nuB ⟨#[60]⟩) (cnB 3) := ⟨by kernel_rfl, by decide +kernel, able_nu (c := cnB 3) (by kernel_rfl) (by decide +kernel) (by decide +kernel)⟩
set_option maxRecDepth 100000 in
theorem okC2 : NuOk (nuC ⟨#[60]⟩) (cnC 3 31 35) := ⟨by kernel_rfl, by decide +kernel, able_nu (c := cnC 3 31 35) (by kernel_rfl) (by decide +kernel) (by decide +kernel)⟩
set_option maxRecDepth 100000 in
theorem okA3 : NuOk (nuA ⟨#[60, 61]⟩) (cnA 4 6 35) := ⟨by kernel_rfl, by decide +kernel, able_nu (c := cnA 4 6 35) (by kernel_rfl) (by decide +kernel) (by decide +kernel)⟩
set_option maxRecDepth 100000 in
theorem okB3 : NuOk (nuB ⟨#[60, 61]⟩) (cnB 4) := ⟨by kernel_rfl, by decide +kernel, able_nu (c := cnB 4) (by kernel_rfl) (by decide +kernel) (by decide +kernel)⟩
set_option maxRecDepth 100000 in
theorem okC3 : NuOk (nuC ⟨#[60, 61]⟩) (cnC 4 32 36) := ⟨by kernel_rfl, by decide +kernel, able_nu (c := cnC 4 32 36) (by kernel_rfl) (by decide +kernel) (by decide +kernel)⟩
set_option maxRecDepth 100000 in
theorem okA4 : NuOk (nuA ⟨#[62]⟩) (cnA 5 3 34) := ⟨by kernel_rfl, by decide +kernel, able_nu (c := cnA 5 3 34) (by kernel_rfl) (by decide +kernel) (by decide +kernel)⟩
set_option maxRecDepth 100000 in
theorem okB4 : NuOk (nuB ⟨#[62]⟩) (cnB 5) := ⟨by kernel_rfl, by decide +kernel, able_nu (c := cnB 5) (by kernel_rfl) (by decide +kernel) (by decide +kernel)⟩
set_option maxRecDepth 100000 in
theorem okC4 : NuOk (nuC ⟨#[62]⟩) (cnC 5 31 35) := ⟨by kernel_rfl, by decide +kernel, able_nu (c := cnC 5 31 35) (by kernel_rfl) (by decide +kernel) (by decide +kernel)⟩
set_option maxRecDepth 100000 in
theorem okA5 : NuOk (nuA ⟨#[62, 61]⟩) (cnA 6 4 35) := ⟨by kernel_rfl, by decide +kernel, able_nu (c := cnA 6 4 35) (by kernel_rfl) (by decide +kernel) (by decide +kernel)⟩
set_option maxRecDepth 100000 in
theorem okB5 : NuOk (nuB ⟨#[62, 61]⟩) (cnB 6) := ⟨by kernel_rfl, by decide +kernel, able_nu (c := cnB 6) (by kernel_rfl) (by decide +kernel) (by decide +kernel)⟩
set_option maxRecDepth 100000 in
theorem okC5 : NuOk (nuC ⟨#[62, 61]⟩) (cnC 6 32 36) := ⟨by kernel_rfl, by decide +kernel, able_nu (c := cnC 6 32 36) (by kernel_rfl) (by decide +kernel) (by decide +kernel)⟩
set_option maxRecDepth 100000 in
theorem okD : NuOk (nuD) (cnD) := ⟨by kernel_rfl, by decide +kernel, able_nu (c := cnD) (by kernel_rfl) (by decide +kernel) (by decide +kernel)⟩
set_option maxRecDepth 100000 in
theorem okE : NuOk (nuE) (cnE) := ⟨by kernel_rfl, by decide +kernel, able_nu (c := cnE) (by kernel_rfl) (by decide +kernel) (by decide +kernel)⟩
structure NuRel (r : ByteArray) (a : Int) (v : Vv) : Prop where
 A : ∃ c, NuOk (nuA r) c ∧ trP catC (rowV a v) c = 2
 B : ∃ c, NuOk (nuB r) c ∧ trP catC (rowV a v) c = 2
 C : ∃ c, NuOk (nuC r) c ∧ trP catC (rowV a v) c = (if v.k = 0 then 2 else 1)
theorem colA (a : Int) (v : Vv) (d : Vl) : colV ⟨#[97]⟩ catC (rowV a v) d = ⟨2, a, ⟨#[]⟩⟩ := by
 unfold colV
 rw [show colN ⟨#[97]⟩ catC = 0 by decide +kernel]
 rfl
theorem colD (a : Int) (v : Vv) (d : Vl) : colV ⟨#[100]⟩ catC (rowV a v) d = vlV v := by
 unfold colV
 rw [show colN ⟨#[100]⟩ catC = 3 by decide +kernel]
 rfl
theorem col0 (a : Int) (v : Vv) (d : Vl) : colV ⟨#[]⟩ catC (rowV a v) d = d := by
 unfold colV
 rw [show colN ⟨#[]⟩ catC = 4 by decide +kernel]
 rfl
theorem relB_few (r : Nat) (h : 1 ≤ r ∧ r ≤ 6) : relB r = true := by
 obtain ⟨h1, h2⟩ := h
 have : r = 1 ∨ r = 2 ∨ r = 3 ∨ r = 4 ∨ r = 5 ∨ r = 6 := by omega
 rcases this with rfl | rfl | rfl | rfl | rfl | rfl <;> decide
theorem tr_nuL (a : Int) (v : Vv) (r p : Nat) (h : 1 ≤ r ∧ r ≤ 6) : trP catC (rowV a v) (nuL r p) = 2 := by
 show kindT 3 r (colV ⟨#[97]⟩ catC (rowV a v) ⟨0, 0, ⟨#[]⟩⟩) (colV ⟨#[]⟩ catC (rowV a v) ⟨0, 0, ⟨#[]⟩⟩) ⟨0, 0, ⟨#[]⟩⟩ [] [] = 2
 rw [colA, col0]
 show ofT r ⟨2, a, ⟨#[]⟩⟩ ⟨0, 0, ⟨#[]⟩⟩ = 2
 unfold ofT
 rw [relB_few r h]
 rfl
theorem tr_nuK (a : Int) (v : Vv) (r p : Nat) : trP catC (rowV a v) (nuK r p) = ofT r (vlV v) ⟨2, a, ⟨#[]⟩⟩ := by
 show kindT 4 r (colV ⟨#[100]⟩ catC (rowV a v) ⟨0, 0, ⟨#[]⟩⟩) (colV ⟨#[97]⟩ catC (rowV a v) ⟨0, 0, ⟨#[]⟩⟩) ⟨0, 0, ⟨#[]⟩⟩ [] [] = _
 rw [colA, colD]
 rfl
theorem tr_cnA (a : Int) (v : Vv) (r t p : Nat) (h : 1 ≤ r ∧ r ≤ 6) (h2 : 1 ≤ t ∧ t ≤ 6) : trP catC (rowV a v) (cnA r t p) = 2 := by
 show joinT 1 0 [trP catC (rowV a v) (nuL r 22), trP catC (rowV a v) (nuL t p)] = 2
 rw [tr_nuL a v r 22 h, tr_nuL a v t p h2]
 rfl
theorem tr_cnB (a : Int) (v : Vv) (r : Nat) (h : 1 ≤ r ∧ r ≤ 6) : trP catC (rowV a v) (cnB r) = 2 := by
 show notT (trP catC (rowV a v) (nuL r 26)) = 2
 rw [tr_nuL a v r 26 h]
 rfl
theorem tr_cnC (a : Int) (v : Vv) (r p p2 : Nat) (h : 1 ≤ r ∧ r ≤ 6) : trP catC (rowV a v) (cnC r p p2) = if v.k = 0 then 2 else 1 := by
 show joinT 1 0 [trP catC (rowV a v) (nuK r 22), notT (trP catC (rowV a v) (nuK r p2))] = _
 rw [tr_nuK, tr_nuK]
 by_cases hk : v.k = 0
 ·rw [if_pos hk]
  have e : ofT r (vlV v) ⟨2, a, ⟨#[]⟩⟩ = 2 := by
   unfold ofT
   rw [relB_few r h]
   simp [vlV, hk]
  rw [e]
  rfl
 ·rw [if_neg hk]
  have e : ofT r (vlV v) ⟨2, a, ⟨#[]⟩⟩ = 0 ∨ ofT r (vlV v) ⟨2, a, ⟨#[]⟩⟩ = 1 := by
   unfold ofT
   rw [relB_few r h]
   simp only [vlV, hk, if_false, Bool.true_eq_false, show ((2 : Int) = 0) = False from by simp]
   rcases Bool.eq_false_or_eq_true (saysB (r : Int) (Vl.ord ⟨v.k, v.n, v.s⟩ ⟨2, a, ⟨#[]⟩⟩)) with hs | hs
   ·exact .inr (if_pos hs)
   ·exact .inl (if_neg (by rw [hs]; decide))
  rcases e with e | e <;> rw [e] <;> rfl
theorem tr_cnD (a : Int) (v : Vv) : trP catC (rowV a v) cnD = if v.k = 0 then 1 else 0 := by
 show boolT ((colV ⟨#[100]⟩ catC (rowV a v) ⟨0, 0, ⟨#[]⟩⟩).k == 0) = _
 rw [colD]
 by_cases hk : v.k = 0 <;> simp [boolT, vlV, hk]
theorem tr_cnE (a : Int) (v : Vv) : trP catC (rowV a v) cnE = if v.k = 0 then 0 else 1 := by
 show boolT ((colV ⟨#[100]⟩ catC (rowV a v) ⟨0, 0, ⟨#[]⟩⟩).k != 0) = _
 rw [colD]
 by_cases hk : v.k = 0 <;> simp [boolT, vlV, hk]
theorem nuRel (a : Int) (v : Vv) : ∀ r ∈ nuR, NuRel r a v := by
 intro r hr
 simp only [nuR, List.mem_cons, List.not_mem_nil, or_false] at hr
 rcases hr with rfl | rfl | rfl | rfl | rfl | rfl
 ·exact ⟨⟨_, okA0, tr_cnA a v _ _ _ (by decide) (by decide)⟩, ⟨_, okB0, tr_cnB a v _ (by decide)⟩, ⟨_, okC0, tr_cnC a v _ _ _ (by decide)⟩⟩
 ·exact ⟨⟨_, okA1, tr_cnA a v _ _ _ (by decide) (by decide)⟩, ⟨_, okB1, tr_cnB a v _ (by decide)⟩, ⟨_, okC1, tr_cnC a v _ _ _ (by decide)⟩⟩
 ·exact ⟨⟨_, okA2, tr_cnA a v _ _ _ (by decide) (by decide)⟩, ⟨_, okB2, tr_cnB a v _ (by decide)⟩, ⟨_, okC2, tr_cnC a v _ _ _ (by decide)⟩⟩
 ·exact ⟨⟨_, okA3, tr_cnA a v _ _ _ (by decide) (by decide)⟩, ⟨_, okB3, tr_cnB a v _ (by decide)⟩, ⟨_, okC3, tr_cnC a v _ _ _ (by decide)⟩⟩
 ·exact ⟨⟨_, okA4, tr_cnA a v _ _ _ (by decide) (by decide)⟩, ⟨_, okB4, tr_cnB a v _ (by decide)⟩, ⟨_, okC4, tr_cnC a v _ _ _ (by decide)⟩⟩
 ·exact ⟨⟨_, okA5, tr_cnA a v _ _ _ (by decide) (by decide)⟩, ⟨_, okB5, tr_cnB a v _ (by decide)⟩, ⟨_, okC5, tr_cnC a v _ _ _ (by decide)⟩⟩
end Go.Proofs.Ytakfeimidbnnjaa
namespace Go.Proofs.Ytakfeimidbnnjaa
open Go.RowKit
set_option linter.unusedVariables false
set_option linter.unusedSimpArgs false
theorem nu3_blk {W : World} {A : Nat} {u0 u1 u2 : Value} {T : TypeId} (h : W.heap[A]? = some (.cells #[u0, u1, u2] T (0, 0))) (v0 v1 v2 : Value) : (((W.setCell ⟨A, 0, none⟩ v0).setCell ⟨A, 1, none⟩ v1).setCell ⟨A, 2, none⟩ v2).heap[A]? = some (.cells #[v0, v1, v2] T (0, 0)) :=
 heap_setCell_same _ _ 2 _ _ v2 (heap_setCell_same _ _ 1 _ _ v1 (heap_setCell_same _ _ 0 _ _ v0 h))
theorem whereNu {s : ByteArray} {c : Prd} (h : NuOk s c) (w : World) : Calls Try.prog 16 #[.string s] w fun e w' => w.grownBy w' none ∧ ∃ x : Pm, e = .returned (.tuple #[.agg x.c.toArray, .bool true]) ∧ PmS (fun j => w.heap.size ≤ j) w' x ∧ PrdOk catC x c := by
 refine (lawWhere_any s w (by have := h.2.1; omega)).mono ?_
 rintro e w3 ⟨hg, x, bb, rfl, hb1, hb2⟩
 obtain rfl : bb = true := hb1 h.2.2
 obtain ⟨hp, hS, Q, hq, hr, he⟩ := hb2 rfl
 have Ox := PrdOk.of catC_ok hp hq hr he
 obtain rfl : Q = qnu c := by have := hq.symm.trans h.1; injection this
 exact ⟨hg, x, by unfold Pm.v; rfl, hS, Ox⟩
theorem passNu {a : Option Addr} {p : Option Addr} {rv : List Vv} {c : Prd} {x : Pm} {S : Nat → Prop} (hx : PrdOk catC x c) (hf : ∀ v ∈ rv, (vlV v).fine) (hl : rv.length = 4) (W : World) (hC : ColsAt W.heap.size W a catC) (hV : VvAt W.heap.size W p rv) (hS : PmS S W x) :
  Calls Try.prog 12 #[.agg #[.string ⟨#[116]⟩, .slice a 4 4, .int .i64 1], .agg x.c.toArray, .slice p 4 4] W fun e w' => e = .returned (.bool (trP catC rv c == 1)) ∧ W.grownBy w' none := by
 have h := sPasses_any ⟨#[116]⟩ a 4 catC 1 S x p 4 rv W hC catC_n (by decide) hS (by have := hx.n; omega) hx.nod hV hf hl
 rw [hx.tr, hl] at h
 unfold Pm.v at h
 exact h
set_option maxRecDepth 100000 in
set_option maxHeartbeats 6400000 in
theorem SieveNulls_any (na nd : Int) (nl : Bool) (w : World) : Calls Try.prog 6 #[.int .i64 na, .int .i64 nd, .bool nl] w fun e w' => e = .returned (.bool true) ∧ w.grownBy w' none := by
 go_enter Try.func6, Try.ntmps6
 go_wp2_with fail
 refine (awake13_any _).mono ?_
 rintro e w0 ⟨rfl, hg0⟩
 have G0 := Lib.hid hg0
 clear hg0
 go_wp2_with fail
 refine (catalogC_any _).mono ?_
 rintro e w1 ⟨⟨a, b, rfl, hT⟩, hg⟩
 obtain ⟨gt, ot, rfl, _, d0, d1, d2⟩ := hT.at (i := 0) (by simp)
 have hC := hT.2.1 (catT a) (by simp)
 have HC := Lib.hid (show ColsAt w1.heap.size w1 a catC from hC)
 have G1 := Lib.hid (G0.out.trans hg)
 have e0 : w1.cell? ⟨gt, ot, none⟩ = some (.string ⟨#[116]⟩) := by
  have h : w1.cell? ⟨gt, ot, none⟩ = some (.string (catT a).n) := by simpa using d0
  exact h
 have e1 : w1.cell? ⟨gt, ot + 1, none⟩ = some (.slice a 4 4) := by
  have h : w1.cell? ⟨gt, ot + 1, none⟩ = some (.slice (catT a).a (catT a).l.length (catT a).cap) := by simpa using d1
  exact h
 have e2 : w1.cell? ⟨gt, ot + 2, none⟩ = some (.int .i64 1) := by
  have h : w1.cell? ⟨gt, ot + 2, none⟩ = some (.int .i64 (catT a).k) := by simpa using d2
  exact h
 clear hT hg d0 d1 d2 hC G0
 go_upto_region 4 with fail
 clear e0 e1 e2
 change Code.wp _ _ _ _ (w1.alloc (.cells #[.string ⟨#[116]⟩, .slice a 4 4, .int .i64 1] 24))
 have T2 := Lib.hid (heap_alloc_new w1 (.cells #[.string ⟨#[116]⟩, .slice a 4 4, .int .i64 1] 24))
 have G2 := Lib.hid (World.grownBy_alloc w1 (.cells #[.string ⟨#[116]⟩, .slice a 4 4, .int .i64 1] 24) none)
 generalize w1.alloc (.cells #[.string ⟨#[116]⟩, .slice a 4 4, .int .i64 1] 24) = w2 at *
 obtain ⟨g1, hg1⟩ : ∃ g1, g1 = w1.heap.size := ⟨_, rfl⟩
 rw [← hg1] at T2 ⊢
 clear hg1
 go_wp2_with fail
 refine (refInt_any nd w2).mono ?_
 rintro e w3 ⟨rfl, hw3⟩
 have G3 : Hid (w2.grownBy w3 none) := Lib.hid (by rw [← hw3]; exact World.grownBy_alloc w2 _ none)
 clear hw3
 go_upto_region 5 with fail
 have B4 := Lib.hid (heap_alloc_new w3 (.cells #[.int .i64 2, .int .i64 nd, .string ⟨#[]⟩] 31))
 have G4 := Lib.hid (World.grownBy_alloc w3 (.cells #[.int .i64 2, .int .i64 nd, .string ⟨#[]⟩] 31) none)
 generalize w3.alloc (.cells #[.int .i64 2, .int .i64 nd, .string ⟨#[]⟩] 31) = w4 at *
 obtain ⟨g3, hg3⟩ : ∃ g3, g3 = w3.heap.size := ⟨_, rfl⟩
 rw [← hg3] at B4 ⊢
 have HG3 := Lib.hid hg3
 clear hg3
 obtain ⟨v, hv⟩ : ∃ v : Vv, v = if nl then ⟨0, 0, ⟨#[]⟩⟩ else ⟨2, nd, ⟨#[]⟩⟩ := ⟨_, rfl⟩
 have HVv := Lib.hid hv
 clear hv
 go_upto_if 29 with fail
 go_cut [] from 29 to 31 (fun wx => Hid (w3.grownBy wx none ∧ wx.heap[g3]? = some (.cells #[.int .i64 v.k, .int .i64 v.n, .string v.s] 31 (0, 0))))
 case first =>
  cases nl
  ·go_wp2_with fail
   go_meet
   case rel => exact Lib.hid ⟨G4.out, by rw [HVv.out]; exact B4.out⟩
  ·obtain ⟨⟨b0, b1, b2⟩, b3, b4, b5⟩ := boxD3 B4.out
   go_wp2_with fail
   go_meet
   case rel => exact Lib.hid ⟨grown_setnewX (grown_setnewX (grown_setnewX G4.out (by rw [HG3.out]; exact Nat.le_refl _) 0 _) (by rw [HG3.out]; exact Nat.le_refl _) 1 _) (by rw [HG3.out]; exact Nat.le_refl _) 2 _, by rw [HVv.out]; exact nu3_blk B4.out _ _ _⟩
 case rest =>
 have J5 := hcut
 clear hcut B4 G4
 rename World => w5
 obtain ⟨⟨b0, b1, b2⟩, b3, b4, b5⟩ := boxD3 J5.out.2
 have GB5 := Lib.hid J5.out.1
 clear J5
 go_wp2_with fail
 refine (lawRow_any na v.k v.n v.s w5).mono ?_
 rintro e w6 ⟨p, rfl, hV, hg⟩
 have HV := Lib.hid (show VvAt w6.heap.size w6 p (rowV na v) from hV)
 have G6 := Lib.hid (GB5.out.trans hg)
 clear hg hV b0 b1 b2 b3 b4 b5 GB5
 have HR := Lib.hid (nuRel na v)
 have T6 := Lib.hid (blkD (G3.out.trans G6.out) T2.out)
 have C6 := Lib.hid (HC.out.keep (G2.out.trans (G3.out.trans G6.out)) (by simp))
 have G7 := Lib.hid (G1.out.trans (G2.out.trans (G3.out.trans G6.out)))
 have L7 : Hid (w1.heap.size ≤ w6.heap.size) := Lib.hid (G2.out.trans (G3.out.trans G6.out)).size
 clear HC G1 G2 G3 G6 T2 HG3
 go_wp2_with fail
 go_loopw [35] (fun s35 wr => ∃ k : Nat, s35 = .int .i64 k ∧ k ≤ 6 ∧ Hid (w6.grownBy wr none)) (fun s35 _ => 6 - (intOf s35).toNat)
 case atStart => exact ⟨0, rfl, by omega, Lib.hid (grown_reflT _ _)⟩
 case round =>
  obtain ⟨k, rfl, hk, K⟩ := hrel
  by_cases hlt : k < 6
  ·go_upto_region 10 with fail
   go_cut [11] from 37 to 38 (fun s11 wx => ∃ r : ByteArray, s11 = .string r ∧ r.size ≤ 2 ∧ Hid (r ∈ nuR) ∧ Hid (w6.grownBy wx none))
   case first =>
    have hk6 : k = 0 ∨ k = 1 ∨ k = 2 ∨ k = 3 ∨ k = 4 ∨ k = 5 := by omega
    rcases hk6 with rfl | rfl | rfl | rfl | rfl | rfl
    ·have ix : ∀ w, (Instr.index 54 (.agg #[.string ⟨#[61]⟩, .string ⟨#[60, 62]⟩, .string ⟨#[60]⟩, .string ⟨#[60, 61]⟩, .string ⟨#[62]⟩, .string ⟨#[62, 61]⟩]) (.int .i64 0)).run Try.prog w = .ok (.string ⟨#[61]⟩) w := fun _ => by kernel_rfl
     rw [show ((0 : Nat) : Int) = 0 from rfl]
     go_wp2_with fail
     go_meet
     case rel => exact ⟨_, rfl, by decide, Lib.hid (by simp [nuR]), Lib.hid K.out⟩
    ·have ix : ∀ w, (Instr.index 54 (.agg #[.string ⟨#[61]⟩, .string ⟨#[60, 62]⟩, .string ⟨#[60]⟩, .string ⟨#[60, 61]⟩, .string ⟨#[62]⟩, .string ⟨#[62, 61]⟩]) (.int .i64 1)).run Try.prog w = .ok (.string ⟨#[60, 62]⟩) w := fun _ => by kernel_rfl
     rw [show ((1 : Nat) : Int) = 1 from rfl]
     go_wp2_with fail
     go_meet
     case rel => exact ⟨_, rfl, by decide, Lib.hid (by simp [nuR]), Lib.hid K.out⟩
    ·have ix : ∀ w, (Instr.index 54 (.agg #[.string ⟨#[61]⟩, .string ⟨#[60, 62]⟩, .string ⟨#[60]⟩, .string ⟨#[60, 61]⟩, .string ⟨#[62]⟩, .string ⟨#[62, 61]⟩]) (.int .i64 2)).run Try.prog w = .ok (.string ⟨#[60]⟩) w := fun _ => by kernel_rfl
     rw [show ((2 : Nat) : Int) = 2 from rfl]
     go_wp2_with fail
     go_meet
     case rel => exact ⟨_, rfl, by decide, Lib.hid (by simp [nuR]), Lib.hid K.out⟩
    ·have ix : ∀ w, (Instr.index 54 (.agg #[.string ⟨#[61]⟩, .string ⟨#[60, 62]⟩, .string ⟨#[60]⟩, .string ⟨#[60, 61]⟩, .string ⟨#[62]⟩, .string ⟨#[62, 61]⟩]) (.int .i64 3)).run Try.prog w = .ok (.string ⟨#[60, 61]⟩) w := fun _ => by kernel_rfl
     rw [show ((3 : Nat) : Int) = 3 from rfl]
     go_wp2_with fail
     go_meet
     case rel => exact ⟨_, rfl, by decide, Lib.hid (by simp [nuR]), Lib.hid K.out⟩
    ·have ix : ∀ w, (Instr.index 54 (.agg #[.string ⟨#[61]⟩, .string ⟨#[60, 62]⟩, .string ⟨#[60]⟩, .string ⟨#[60, 61]⟩, .string ⟨#[62]⟩, .string ⟨#[62, 61]⟩]) (.int .i64 4)).run Try.prog w = .ok (.string ⟨#[62]⟩) w := fun _ => by kernel_rfl
     rw [show ((4 : Nat) : Int) = 4 from rfl]
     go_wp2_with fail
     go_meet
     case rel => exact ⟨_, rfl, by decide, Lib.hid (by simp [nuR]), Lib.hid K.out⟩
    ·have ix : ∀ w, (Instr.index 54 (.agg #[.string ⟨#[61]⟩, .string ⟨#[60, 62]⟩, .string ⟨#[60]⟩, .string ⟨#[60, 61]⟩, .string ⟨#[62]⟩, .string ⟨#[62, 61]⟩]) (.int .i64 5)).run Try.prog w = .ok (.string ⟨#[62, 61]⟩) w := fun _ => by kernel_rfl
     rw [show ((5 : Nat) : Int) = 5 from rfl]
     go_wp2_with fail
     go_meet
     case rel => exact ⟨_, rfl, by decide, Lib.hid (by simp [nuR]), Lib.hid K.out⟩
   case rest =>
   obtain ⟨r, rfl, hr2, HM, K8⟩ := hcut
   rename World => w8
   have hn := HR.out r HM.out
   obtain ⟨c1, ok1, z1⟩ := hn.A
   obtain ⟨c2, ok2, z2⟩ := hn.B
   obtain ⟨c3, ok3, z3⟩ := hn.C
   have ok1 := Lib.hid ok1
   have ok2 := Lib.hid ok2
   have ok3 := Lib.hid ok3
   have z1 := Lib.hid z1
   have z2 := Lib.hid z2
   have z3 := Lib.hid z3
   clear hn HM K
   have WH := Lib.hid (fun W => whereNu ok1.out W)
   unfold nuA at WH
   go_wp2_with fail
   refine (WH.out w8).mono ?_
   rintro e w9 ⟨hg, x1, rfl, hS, hO⟩
   have O1 := Lib.hid hO
   have S1 := Lib.hid hS
   have Hw9 := Lib.hid hg
   obtain ⟨cx1, hcx⟩ : ∃ cx, cx = x1.c.toArray := ⟨_, rfl⟩
   have cx1_eq := Lib.hid hcx
   have cx1_sz : cx1.size = 10 := by rw [hcx]; exact x1.c_size
   have cx1_one : cx1.all (·.oneCell') = true := by rw [hcx]; exact x1.c_all
   rw [← hcx]
   clear hO hS hg hcx WH
   have A1 := Lib.hid (heap_alloc_new w9 (.cells z10 34))
   go_upto_region 12 with (first
    | (refine wpList_store_row rfl 34 (.tmp 12) (.tmp 46) rfl w9.heap.size cx1 rfl rfl 34 z10 A1.out (by rw [cx1_sz]; exact pred_size) (by rw [cx1_sz]; rfl) cx1_one ?_)
    | fail)
   change Code.wp _ _ _ _ ((w9.alloc (.cells z10 34)).setRow w9.heap.size cx1)
   have Hw10 : Hid (w9.grownBy ((w9.alloc (.cells z10 34)).setRow w9.heap.size cx1) none) := Lib.hid (grown_thenX (World.grownBy_alloc w9 _ none) (grown_setRow _ _ _) (fun j e => by cases e; exact Nat.le_refl _))
   have B1 : Hid (((w9.alloc (.cells z10 34)).setRow w9.heap.size cx1).heap[w9.heap.size]? = some (.cells cx1 34 (0, 0))) := Lib.hid (setRow_heap _ _ _ _ _ _ A1.out)
   generalize (w9.alloc (.cells z10 34)).setRow w9.heap.size cx1 = w10 at *
   obtain ⟨gp1, hgp⟩ : ∃ g, g = w9.heap.size := ⟨_, rfl⟩
   rw [← hgp] at B1 ⊢
   clear A1 hgp
   have WH := Lib.hid (fun W => whereNu ok2.out W)
   unfold nuB at WH
   go_wp2_with fail
   refine (WH.out w10).mono ?_
   rintro e w11 ⟨hg, x2, rfl, hS, hO⟩
   have O2 := Lib.hid hO
   have S2 := Lib.hid hS
   have Hw11 := Lib.hid hg
   obtain ⟨cx2, hcx⟩ : ∃ cx, cx = x2.c.toArray := ⟨_, rfl⟩
   have cx2_eq := Lib.hid hcx
   have cx2_sz : cx2.size = 10 := by rw [hcx]; exact x2.c_size
   have cx2_one : cx2.all (·.oneCell') = true := by rw [hcx]; exact x2.c_all
   rw [← hcx]
   clear hO hS hg hcx WH
   have A1 := Lib.hid (heap_alloc_new w11 (.cells z10 34))
   go_upto_region 13 with (first
    | (refine wpList_store_row rfl 34 (.tmp 14) (.tmp 53) rfl w11.heap.size cx2 rfl rfl 34 z10 A1.out (by rw [cx2_sz]; exact pred_size) (by rw [cx2_sz]; rfl) cx2_one ?_)
    | fail)
   change Code.wp _ _ _ _ ((w11.alloc (.cells z10 34)).setRow w11.heap.size cx2)
   have Hw12 : Hid (w11.grownBy ((w11.alloc (.cells z10 34)).setRow w11.heap.size cx2) none) := Lib.hid (grown_thenX (World.grownBy_alloc w11 _ none) (grown_setRow _ _ _) (fun j e => by cases e; exact Nat.le_refl _))
   have B2 : Hid (((w11.alloc (.cells z10 34)).setRow w11.heap.size cx2).heap[w11.heap.size]? = some (.cells cx2 34 (0, 0))) := Lib.hid (setRow_heap _ _ _ _ _ _ A1.out)
   generalize (w11.alloc (.cells z10 34)).setRow w11.heap.size cx2 = w12 at *
   obtain ⟨gp2, hgp⟩ : ∃ g, g = w11.heap.size := ⟨_, rfl⟩
   rw [← hgp] at B2 ⊢
   clear A1 hgp
   have WH := Lib.hid (fun W => whereNu ok3.out W)
   unfold nuC at WH
   go_wp2_with fail
   refine (WH.out w12).mono ?_
   rintro e w13 ⟨hg, x3, rfl, hS, hO⟩
   have O3 := Lib.hid hO
   have S3 := Lib.hid hS
   have Hw13 := Lib.hid hg
   obtain ⟨cx3, hcx⟩ : ∃ cx, cx = x3.c.toArray := ⟨_, rfl⟩
   have cx3_eq := Lib.hid hcx
   have cx3_sz : cx3.size = 10 := by rw [hcx]; exact x3.c_size
   have cx3_one : cx3.all (·.oneCell') = true := by rw [hcx]; exact x3.c_all
   rw [← hcx]
   clear hO hS hg hcx WH
   have A1 := Lib.hid (heap_alloc_new w13 (.cells z10 34))
   go_upto_region 14 with (first
    | (refine wpList_store_row rfl 34 (.tmp 16) (.tmp 63) rfl w13.heap.size cx3 rfl rfl 34 z10 A1.out (by rw [cx3_sz]; exact pred_size) (by rw [cx3_sz]; rfl) cx3_one ?_)
    | fail)
   change Code.wp _ _ _ _ ((w13.alloc (.cells z10 34)).setRow w13.heap.size cx3)
   have Hw14 : Hid (w13.grownBy ((w13.alloc (.cells z10 34)).setRow w13.heap.size cx3) none) := Lib.hid (grown_thenX (World.grownBy_alloc w13 _ none) (grown_setRow _ _ _) (fun j e => by cases e; exact Nat.le_refl _))
   have B3 : Hid (((w13.alloc (.cells z10 34)).setRow w13.heap.size cx3).heap[w13.heap.size]? = some (.cells cx3 34 (0, 0))) := Lib.hid (setRow_heap _ _ _ _ _ _ A1.out)
   generalize (w13.alloc (.cells z10 34)).setRow w13.heap.size cx3 = w14 at *
   obtain ⟨gp3, hgp⟩ : ∃ g, g = w13.heap.size := ⟨_, rfl⟩
   rw [← hgp] at B3 ⊢
   clear A1 hgp
   have H14 := Lib.hid (Hw9.out.trans (Hw10.out.trans (Hw11.out.trans (Hw12.out.trans (Hw13.out.trans Hw14.out)))))
   have D10 := Lib.hid (Hw11.out.trans (Hw12.out.trans (Hw13.out.trans Hw14.out)))
   have D12 := Lib.hid (Hw13.out.trans Hw14.out)
   have K14 := Lib.hid (K8.out.trans H14.out)
   have Tw14 := Lib.hid (blkD K14.out T6.out)
   have X1w14 := Lib.hid (blkD D10.out B1.out)
   have X2w14 := Lib.hid (blkD D12.out B2.out)
   have X3w14 := B3
   have C14 := Lib.hid (C6.out.keep K14.out (by simp))
   have L14 : Hid (w1.heap.size ≤ w14.heap.size) := Lib.hid (Nat.le_trans L7.out K14.out.size)
   have V14 := Lib.hid ((HV.out.keep K14.out (by simp)).mono1 K14.out.size)
   have SS1 := Lib.hid (S1.out.keep (.of (Hw10.out.trans D10.out)))
   have SS2 := Lib.hid (S2.out.keep (.of (Hw12.out.trans D12.out)))
   have SS3 := Lib.hid (S3.out.keep (.of Hw14.out))
   have HF := Lib.hid (show (vlV v).fine by rw [HVv.out]; cases nl; exact fine_i nd; exact fine_z)
   have e3 : ((if v.k = 0 then (2 : Int) else 1) == 1) = !nl := by rw [HVv.out]; cases nl <;> rfl
   have P1 : Hid (∀ W, w14.grownBy W none → Calls Try.prog 12 #[.agg #[.string ⟨#[116]⟩, .slice a 4 4, .int .i64 1], .agg cx1, .slice p 4 4] W fun e w' => e = .returned (.bool false) ∧ W.grownBy w' none) := Lib.hid (fun W hW => by
    have h := passNu O1.out (rowV_fine _ _ HF.out) rfl W ((C14.out.keep hW (by simp)).mono (Nat.le_trans L14.out hW.size)) ((V14.out.keep hW (by simp)).mono1 hW.size) (SS1.out.keep (.of hW))
    rw [z1.out, ← cx1_eq.out] at h
    exact h)
   have P2 : Hid (∀ W, w14.grownBy W none → Calls Try.prog 12 #[.agg #[.string ⟨#[116]⟩, .slice a 4 4, .int .i64 1], .agg cx2, .slice p 4 4] W fun e w' => e = .returned (.bool false) ∧ W.grownBy w' none) := Lib.hid (fun W hW => by
    have h := passNu O2.out (rowV_fine _ _ HF.out) rfl W ((C14.out.keep hW (by simp)).mono (Nat.le_trans L14.out hW.size)) ((V14.out.keep hW (by simp)).mono1 hW.size) (SS2.out.keep (.of hW))
    rw [z2.out, ← cx2_eq.out] at h
    exact h)
   have P3 : Hid (∀ W, w14.grownBy W none → Calls Try.prog 12 #[.agg #[.string ⟨#[116]⟩, .slice a 4 4, .int .i64 1], .agg cx3, .slice p 4 4] W fun e w' => e = .returned (.bool (!nl)) ∧ W.grownBy w' none) := Lib.hid (fun W hW => by
    have h := passNu O3.out (rowV_fine _ _ HF.out) rfl W ((C14.out.keep hW (by simp)).mono (Nat.le_trans L14.out hW.size)) ((V14.out.keep hW (by simp)).mono1 hW.size) (SS3.out.keep (.of hW))
    rw [z3.out, ← cx3_eq.out] at h
    rw [e3] at h
    exact h)
   have Zw14 := Lib.hid (grown_reflT w14 none)
   clear e3 HF SS1 SS2 SS3 S1 S2 S3 V14 L14 C14 B1 B2 B3 D10 D12 H14 Hw9 Hw10 Hw11 Hw12 Hw13 Hw14 ok1 ok2 ok3 z1 z2 z3 O1 O2 O3 K8
   obtain ⟨⟨t0, t1, t2⟩, t3, t4, t5⟩ := boxD3 Tw14.out
   go_wp2_with (first
    | (refine wpList_load_rowGs (by rfl) 34 (.tmp 12) rfl gp1 rfl 34 cx1 (0, 0) _ X1w14.out Try.underlying34 rfl (by rw [cx1_sz]; exact pred_size) ?_)
    | fail)
   refine (P1.out _ Zw14.out).mono ?_
   rintro e w15 ⟨rfl, hg⟩
   have Zw15 := Lib.hid (Zw14.out.trans hg)
   have Tw15 := Lib.hid (blkD hg Tw14.out)
   have X2w15 := Lib.hid (blkD hg X2w14.out)
   have X3w15 := Lib.hid (blkD hg X3w14.out)
   clear hg t0 t1 t2 t3 t4 t5
   obtain ⟨⟨t0, t1, t2⟩, t3, t4, t5⟩ := boxD3 Tw15.out
   go_wp2_with (first
    | (refine wpList_load_rowGs (by rfl) 34 (.tmp 14) rfl gp2 rfl 34 cx2 (0, 0) _ X2w15.out Try.underlying34 rfl (by rw [cx2_sz]; exact pred_size) ?_)
    | fail)
   refine (P2.out _ Zw15.out).mono ?_
   rintro e w16 ⟨rfl, hg⟩
   have Zw16 := Lib.hid (Zw15.out.trans hg)
   have Tw16 := Lib.hid (blkD hg Tw15.out)
   have X3w16 := Lib.hid (blkD hg X3w15.out)
   clear hg t0 t1 t2 t3 t4 t5
   obtain ⟨⟨t0, t1, t2⟩, t3, t4, t5⟩ := boxD3 Tw16.out
   go_wp2_with (first
    | (refine wpList_load_rowGs (by rfl) 34 (.tmp 16) rfl gp3 rfl 34 cx3 (0, 0) _ X3w16.out Try.underlying34 rfl (by rw [cx3_sz]; exact pred_size) ?_)
    | fail)
   refine (P3.out _ Zw16.out).mono ?_
   rintro e w17 ⟨rfl, hg⟩
   have Zw17 := Lib.hid (Zw16.out.trans hg)
   have Tw17 := Lib.hid (blkD hg Tw16.out)
   clear hg t0 t1 t2 t3 t4 t5
   have KE := Lib.hid (K14.out.trans Zw17.out)
   cases nl
   ·go_wp2_with fail
    go_roundw
    case rel => exact ⟨k + 1, by go_num, by omega, KE⟩
    case measure => simp [intOf]; omega
   ·go_wp2_with fail
    go_roundw
    case rel => exact ⟨k + 1, by go_num, by omega, KE⟩
    case measure => simp [intOf]; omega
  ·obtain rfl : k = 6 := by omega
   go_upto_region 17 with fail
   have K8 := K
   have WH := Lib.hid (fun W => whereNu okD W)
   unfold nuD at WH
   go_wp2_with fail
   refine (WH.out wr).mono ?_
   rintro e w9 ⟨hg, x1, rfl, hS, hO⟩
   have O1 := Lib.hid hO
   have S1 := Lib.hid hS
   have Hw9 := Lib.hid hg
   obtain ⟨cx1, hcx⟩ : ∃ cx, cx = x1.c.toArray := ⟨_, rfl⟩
   have cx1_eq := Lib.hid hcx
   have cx1_sz : cx1.size = 10 := by rw [hcx]; exact x1.c_size
   have cx1_one : cx1.all (·.oneCell') = true := by rw [hcx]; exact x1.c_all
   rw [← hcx]
   clear hO hS hg hcx WH
   have A1 := Lib.hid (heap_alloc_new w9 (.cells z10 34))
   go_upto_region 18 with (first
    | (refine wpList_store_row rfl 34 (.tmp 18) (.tmp 98) rfl w9.heap.size cx1 rfl rfl 34 z10 A1.out (by rw [cx1_sz]; exact pred_size) (by rw [cx1_sz]; rfl) cx1_one ?_)
    | fail)
   change Code.wp _ _ _ _ ((w9.alloc (.cells z10 34)).setRow w9.heap.size cx1)
   have Hw10 : Hid (w9.grownBy ((w9.alloc (.cells z10 34)).setRow w9.heap.size cx1) none) := Lib.hid (grown_thenX (World.grownBy_alloc w9 _ none) (grown_setRow _ _ _) (fun j e => by cases e; exact Nat.le_refl _))
   have B1 : Hid (((w9.alloc (.cells z10 34)).setRow w9.heap.size cx1).heap[w9.heap.size]? = some (.cells cx1 34 (0, 0))) := Lib.hid (setRow_heap _ _ _ _ _ _ A1.out)
   generalize (w9.alloc (.cells z10 34)).setRow w9.heap.size cx1 = w10 at *
   obtain ⟨gp1, hgp⟩ : ∃ g, g = w9.heap.size := ⟨_, rfl⟩
   rw [← hgp] at B1 ⊢
   clear A1 hgp
   have WH := Lib.hid (fun W => whereNu okE W)
   unfold nuE at WH
   go_wp2_with fail
   refine (WH.out w10).mono ?_
   rintro e w11 ⟨hg, x2, rfl, hS, hO⟩
   have O2 := Lib.hid hO
   have S2 := Lib.hid hS
   have Hw11 := Lib.hid hg
   obtain ⟨cx2, hcx⟩ : ∃ cx, cx = x2.c.toArray := ⟨_, rfl⟩
   have cx2_eq := Lib.hid hcx
   have cx2_sz : cx2.size = 10 := by rw [hcx]; exact x2.c_size
   have cx2_one : cx2.all (·.oneCell') = true := by rw [hcx]; exact x2.c_all
   rw [← hcx]
   clear hO hS hg hcx WH
   have A1 := Lib.hid (heap_alloc_new w11 (.cells z10 34))
   go_upto_region 19 with (first
    | (refine wpList_store_row rfl 34 (.tmp 20) (.tmp 102) rfl w11.heap.size cx2 rfl rfl 34 z10 A1.out (by rw [cx2_sz]; exact pred_size) (by rw [cx2_sz]; rfl) cx2_one ?_)
    | fail)
   change Code.wp _ _ _ _ ((w11.alloc (.cells z10 34)).setRow w11.heap.size cx2)
   have Hw12 : Hid (w11.grownBy ((w11.alloc (.cells z10 34)).setRow w11.heap.size cx2) none) := Lib.hid (grown_thenX (World.grownBy_alloc w11 _ none) (grown_setRow _ _ _) (fun j e => by cases e; exact Nat.le_refl _))
   have B2 : Hid (((w11.alloc (.cells z10 34)).setRow w11.heap.size cx2).heap[w11.heap.size]? = some (.cells cx2 34 (0, 0))) := Lib.hid (setRow_heap _ _ _ _ _ _ A1.out)
   generalize (w11.alloc (.cells z10 34)).setRow w11.heap.size cx2 = w12 at *
   obtain ⟨gp2, hgp⟩ : ∃ g, g = w11.heap.size := ⟨_, rfl⟩
   rw [← hgp] at B2 ⊢
   clear A1 hgp
   have H14 := Lib.hid (Hw9.out.trans (Hw10.out.trans (Hw11.out.trans Hw12.out)))
   have D10 := Lib.hid (Hw11.out.trans Hw12.out)
   have K14 := Lib.hid (K8.out.trans H14.out)
   have Tw12 := Lib.hid (blkD K14.out T6.out)
   have X1w12 := Lib.hid (blkD D10.out B1.out)
   have X2w12 := B2
   have C14 := Lib.hid (C6.out.keep K14.out (by simp))
   have L14 : Hid (w1.heap.size ≤ w12.heap.size) := Lib.hid (Nat.le_trans L7.out K14.out.size)
   have V14 := Lib.hid ((HV.out.keep K14.out (by simp)).mono1 K14.out.size)
   have SS1 := Lib.hid (S1.out.keep (.of (Hw10.out.trans D10.out)))
   have SS2 := Lib.hid (S2.out.keep (.of Hw12.out))
   have HF := Lib.hid (show (vlV v).fine by rw [HVv.out]; cases nl; exact fine_i nd; exact fine_z)
   have e1 : ((if v.k = 0 then (1 : Int) else 0) == 1) = nl := by rw [HVv.out]; cases nl <;> rfl
   have e2 : ((if v.k = 0 then (0 : Int) else 1) == 1) = !nl := by rw [HVv.out]; cases nl <;> rfl
   have P1 : Hid (∀ W, w12.grownBy W none → Calls Try.prog 12 #[.agg #[.string ⟨#[116]⟩, .slice a 4 4, .int .i64 1], .agg cx1, .slice p 4 4] W fun e w' => e = .returned (.bool nl) ∧ W.grownBy w' none) := Lib.hid (fun W hW => by
    have h := passNu O1.out (rowV_fine _ _ HF.out) rfl W ((C14.out.keep hW (by simp)).mono (Nat.le_trans L14.out hW.size)) ((V14.out.keep hW (by simp)).mono1 hW.size) (SS1.out.keep (.of hW))
    rw [tr_cnD, ← cx1_eq.out, e1] at h
    exact h)
   have P2 : Hid (∀ W, w12.grownBy W none → Calls Try.prog 12 #[.agg #[.string ⟨#[116]⟩, .slice a 4 4, .int .i64 1], .agg cx2, .slice p 4 4] W fun e w' => e = .returned (.bool (!nl)) ∧ W.grownBy w' none) := Lib.hid (fun W hW => by
    have h := passNu O2.out (rowV_fine _ _ HF.out) rfl W ((C14.out.keep hW (by simp)).mono (Nat.le_trans L14.out hW.size)) ((V14.out.keep hW (by simp)).mono1 hW.size) (SS2.out.keep (.of hW))
    rw [tr_cnE, ← cx2_eq.out, e2] at h
    exact h)
   have Zw12 := Lib.hid (grown_reflT w12 none)
   clear e1 e2 HF SS1 SS2 S1 S2 V14 L14 C14 B1 B2 D10 H14 Hw9 Hw10 Hw11 Hw12 O1 O2 K8
   obtain ⟨⟨t0, t1, t2⟩, t3, t4, t5⟩ := boxD3 Tw12.out
   go_wp2_with (first
    | (refine wpList_load_rowGs (by rfl) 34 (.tmp 18) rfl gp1 rfl 34 cx1 (0, 0) _ X1w12.out Try.underlying34 rfl (by rw [cx1_sz]; exact pred_size) ?_)
    | fail)
   refine (P1.out _ Zw12.out).mono ?_
   rintro e w15 ⟨rfl, hg⟩
   have Zw15 := Lib.hid (Zw12.out.trans hg)
   have Tw15 := Lib.hid (blkD hg Tw12.out)
   have X2w15 := Lib.hid (blkD hg X2w12.out)
   clear hg t0 t1 t2 t3 t4 t5
   obtain ⟨⟨t0, t1, t2⟩, t3, t4, t5⟩ := boxD3 Tw15.out
   go_wp2_with (first
    | (refine wpList_load_rowGs (by rfl) 34 (.tmp 20) rfl gp2 rfl 34 cx2 (0, 0) _ X2w15.out Try.underlying34 rfl (by rw [cx2_sz]; exact pred_size) ?_)
    | fail)
   refine (P2.out _ Zw15.out).mono ?_
   rintro e w16 ⟨rfl, hg⟩
   have Zw16 := Lib.hid (Zw15.out.trans hg)
   have Tw16 := Lib.hid (blkD hg Tw15.out)
   clear hg t0 t1 t2 t3 t4 t5
   have GE := Lib.hid (G7.out.trans (K14.out.trans Zw16.out))
   cases nl
   ·go_wp2_with fail
    go_ret
    exact ⟨rfl, GE.out⟩
   ·go_wp2_with fail
    go_ret
    exact ⟨rfl, GE.out⟩
end Go.Proofs.Ytakfeimidbnnjaa
namespace Go.Proofs.Ytakfeimidbnnjaa
open Go.ChangeShapes Go.WideShapes Go.ChangeAt Go.RowKit Go.Joins
open Go.ChangeMaps (open_string shut_string)
open Go.Deep
set_option maxRecDepth 100000 in
theorem sieveNulls_lifted (os : Os) (started : os.Started) (H : Type) (enc : TypeId × Value → H) :
  ReturnsInHanded {} Try.checked os 6 .any (Rows.sieveNullsSpec.pre6 enc Try.prog Try.f6 Rows.sieveNullsRow.domain false) (Rows.sieveNullsSpec.post enc Try.prog Try.f6 false true false false) := by
 refine returnsInHanded_of_change (C := Try.checked) own started (by kernel_rfl) Try.func6
  (ChangeSpec.witness6 (enc := enc) (C := Try.checked) false ⟨#[], #[.int .i64 0, .int .i64 0, .bool false], []⟩ 8 (by kernel_rfl) (by kernel_rfl) (by kernel_rfl) (by kernel_rfl)) ?_
 intro W base args ds gs before hval0 hW _ _
 have hval : ∀ (j : Nat) t v, Try.f6.params[j]? = some t → args[j]? = some v → Value.okWide Try.prog W .any base t v := hval0
 have hW' := hW
 obtain ⟨p, q, hA0, hV, rfl, hfz, hnd⟩ := hW
 have hA : DataW.TrodAll enc Try.prog W 0 (fun _ => true) true Try.f6.params.toList args.toList ds p := hA0
 rw [Try.params6] at hA hval
 obtain ⟨v0, v1, v2, d0, d1, d2, p0, p1, p2, rfl, rfl, rfl, h0, h1, h2⟩ := trodAll_three hA
 obtain ⟨rfl, rfl⟩ := trodVars_none hV
 obtain ⟨n0, rfl, rfl, rfl, wn0⟩ := open_int Try.underlying3 (hval 0 3 v0 rfl rfl) h0
 obtain ⟨n1, rfl, rfl, rfl, wn1⟩ := open_int Try.underlying3 (hval 1 3 v1 rfl rfl) h1
 obtain ⟨f2, rfl, rfl, rfl⟩ := open_bool Try.underlying4 (hval 2 4 v2 rfl rfl) h2
 clear hA0 hval0
 simp only [List.append_nil] at hW'
 refine (SieveNulls_any n0 n1 f2 W).mono fun e W' ⟨he, hg⟩ => ?_
 have hb := below_of hg
 subst he
 exact ⟨_, rfl, _, _, _, [], _, [], hW', trodAll_mk1 (shut_bool Try.underlying4 _), trodAll_mk3 (shut_int Try.underlying3 wn0) (shut_int Try.underlying3 wn1) (shut_bool Try.underlying4 _), rfl, hb.frame _, fun h => by cases h⟩

theorem sieveNulls_said : Rows.SieveNullsSaid :=
 OpenClaim.holds_of_wide 6 Try.f6 rfl rfl rfl rfl rfl rfl rfl ⟨rfl, rfl, rfl, rfl, rfl⟩ rfl rfl rfl rfl rfl (by kernel_rfl) Try.func6 (by kernel_rfl)
  (of_decide_eq_true (by kernel_rfl)) (by unfold Func.isWrapper; first | (rw [if_pos (by decide +kernel)]; kernel_rfl) | (rw [if_neg (by decide +kernel)]; exact ⟨rfl, rfl⟩))
  (fun os started H enc _ => sieveNulls_lifted os started H enc)
#print axioms sieveNulls_said
end Go.Proofs.Ytakfeimidbnnjaa
