/- Predicates in memory. The contract of lex's Lex. The reader in memory, and its small functions: comes, pass, wrong, took, need, end, named, name. -/
import Derived.Test.YtppigamibgefaaaGreatDoorZp12
import Derived.Test.YtppigamibgefaaaGreatDoorZp18
import Derived.Deep.MidRow
import Derived.Test.YtppigamibgefaaaGreatDoorZp15
import Derived.Test.YtppigamibgefaaaGreatDoorZp02
namespace Go.Proofs.YtppigamibgefaaaGreatDoor
open Go.RowKit

/-- A predicate with the places of its lists. -/
inductive Pm where
  | mk (kind : Nat) (col : ByteArray) (rel : Nat) (val : Vl) (oth : ByteArray) (la : Ptr) (lc : Nat) (list : List Vl) (ka : Ptr) (kc : Nat) (kids : List Pm) (pos : Nat)
mutual
def Pm.e : Pm → Prd
  | .mk k c r v o _ _ l _ _ ks p => .mk k c r v o l (Pm.es ks) p
def Pm.es : List Pm → List Prd
  | [] => []
  | x :: r => x.e :: Pm.es r
end
theorem Pm.es_map (l : List Pm) : Pm.es l = l.map Pm.e := by
  induction l with
  | nil => rfl
  | cons x r ih => simp [Pm.es, ih]
def Pm.none : Pm := .mk 0 ⟨#[]⟩ 0 ⟨0, 0, ⟨#[]⟩⟩ ⟨#[]⟩ Option.none 0 [] Option.none 0 [] 0
instance : Inhabited Pm := ⟨Pm.none⟩
/-- Its ten cells. -/
def Pm.c : Pm → List Value
  | .mk k c r v o la lc l ka kc ks p => [.int .i64 k, .string c, .int .i64 r, .int .i64 v.k, .int .i64 v.n, .string v.s, .string o, .slice la l.length lc, .slice ka ks.length kc, .int .i64 p]
def Pm.v (x : Pm) : Value := .agg x.c.toArray
def Pm.kids : Pm → List Pm | .mk _ _ _ _ _ _ _ _ _ _ ks _ => ks
theorem Pm.c_len : ∀ x : Pm, x.c.length = 10 | .mk .. => rfl
theorem Pm.c_one : ∀ x : Pm, ∀ u ∈ x.c, u.oneCell' = true
  | .mk .., u, h => by
    simp only [Pm.c, List.mem_cons, List.not_mem_nil, or_false] at h
    rcases h with rfl | rfl | rfl | rfl | rfl | rfl | rfl | rfl | rfl | rfl <;> rfl
theorem pm_len (l : List Pm) : (l.flatMap Pm.c).length = l.length * 10 := by
  induction l with
  | nil => rfl
  | cons x l ih => rw [List.flatMap_cons, List.length_append, ih, Pm.c_len]; simp; omega
theorem pm_at (l : List Pm) : ∀ i, i < l.length → ∀ j u, (l.getD i default).c[j]? = some u → (l.flatMap Pm.c)[i * 10 + j]? = some u := by
  induction l with
  | nil => intro i hi; simp at hi
  | cons x l ih =>
    intro i hi j u hj
    rw [List.flatMap_cons]
    cases i with
    | zero =>
      have hlt : j < x.c.length := (List.getElem?_eq_some_iff.1 hj).1
      rw [List.getElem?_append_left (by omega)]
      rw [Nat.zero_mul, Nat.zero_add]
      exact hj
    | succ i =>
      rw [List.getElem?_append_right (by rw [Pm.c_len]; omega), Pm.c_len, show (i + 1) * 10 + j - 10 = i * 10 + j by omega]
      exact ih i (by simpa using hi) j u hj
theorem pm_one (l : List Pm) : ∀ u ∈ l.flatMap Pm.c, u.oneCell' = true := by
  intro u hu
  rw [List.mem_flatMap] at hu
  obtain ⟨x, _, hx⟩ := hu
  exact Pm.c_one x u hx
/-- Cells that lie in a block of S. -/
def CellsS (S : Nat → Prop) (w : World) (a : Ptr) (xs : List Value) : Prop := xs = [] ∨ ∃ b off, a = some ⟨b, off, Option.none⟩ ∧ S b ∧ b < w.heap.size ∧ ∀ j u, xs[j]? = some u → w.cell? ⟨b, off + j, Option.none⟩ = some u
theorem CellsS.keep {S : Nat → Prop} {w w' : World} {a : Ptr} {xs : List Value} (h : CellsS S w a xs) (hk : Stays S w w') : CellsS S w' a xs :=
  h.imp id fun ⟨b, off, e, hs, hlt, hc⟩ => ⟨b, off, e, hs, Nat.lt_of_lt_of_le hlt hk.1, fun j u hj => (World.cell?_of_block (a := ⟨b, _, Option.none⟩) (hk.2 b hs hlt)).trans (hc j u hj)⟩
theorem CellsS.mono {S S' : Nat → Prop} {w : World} {a : Ptr} {xs : List Value} (h : CellsS S w a xs) (hs : ∀ b, b < w.heap.size → S b → S' b) : CellsS S' w a xs :=
  h.imp id fun ⟨b, off, e, h1, h2, hc⟩ => ⟨b, off, e, hs b h2 h1, h2, hc⟩
mutual
/-- All that it leads to lies in S. -/
def PmS (S : Nat → Prop) (w : World) : Pm → Prop
  | .mk _ _ _ _ _ la lc l ka kc ks _ => RwS S w la l ∧ l.length ≤ lc ∧ CellsS S w ka (ks.flatMap Pm.c) ∧ ks.length ≤ kc ∧ PmSs S w ks
def PmSs (S : Nat → Prop) (w : World) : List Pm → Prop
  | [] => True
  | x :: r => PmS S w x ∧ PmSs S w r
end
theorem PmSs_iff {S : Nat → Prop} {w : World} (l : List Pm) : PmSs S w l ↔ ∀ x ∈ l, PmS S w x := by
  induction l with
  | nil => simp [PmSs]
  | cons x r ih => simp [PmSs, ih]
mutual
theorem PmS.keep {S : Nat → Prop} {w w' : World} (hk : Stays S w w') : ∀ {x : Pm}, PmS S w x → PmS S w' x
  | .mk _ _ _ _ _ _ _ _ _ _ _ _, ⟨a, b, c, d, e⟩ => ⟨a.keep hk, b, c.keep hk, d, PmSs.keep hk e⟩
theorem PmSs.keep {S : Nat → Prop} {w w' : World} (hk : Stays S w w') : ∀ {x : List Pm}, PmSs S w x → PmSs S w' x
  | [], _ => trivial
  | _ :: _, ⟨a, b⟩ => ⟨PmS.keep hk a, PmSs.keep hk b⟩
end
mutual
theorem PmS.mono {S S' : Nat → Prop} {w : World} (hs : ∀ b, b < w.heap.size → S b → S' b) : ∀ {x : Pm}, PmS S w x → PmS S' w x
  | .mk _ _ _ _ _ _ _ _ _ _ _ _, ⟨a, b, c, d, e⟩ => ⟨a.mono hs, b, c.mono hs, d, PmSs.mono hs e⟩
theorem PmSs.mono {S S' : Nat → Prop} {w : World} (hs : ∀ b, b < w.heap.size → S b → S' b) : ∀ {x : List Pm}, PmSs S w x → PmSs S' w x
  | [], _ => trivial
  | _ :: _, ⟨a, b⟩ => ⟨PmS.mono hs a, PmSs.mono hs b⟩
end
theorem RwS.nil (S : Nat → Prop) (w : World) (a : Ptr) : RwS S w a [] := ⟨by simp, by simp, .inl rfl⟩
/-- One without lists. -/
theorem PmS.leaf (S : Nat → Prop) (w : World) (k : Nat) (c : ByteArray) (r : Nat) (v : Vl) (o : ByteArray) (la : Ptr) (lc : Nat) (ka : Ptr) (kc p : Nat) : PmS S w (.mk k c r v o la lc [] ka kc [] p) :=
  ⟨RwS.nil _ _ _, Nat.zero_le _, .inl rfl, Nat.zero_le _, trivial⟩
end Go.Proofs.YtppigamibgefaaaGreatDoor
namespace Go.Proofs.YtppigamibgefaaaGreatDoor
open Go.RowKit

theorem litC_codes (l : List UInt8) : litC l = 0 ∨ litC l = 1 ∨ litC l = 10 := by
  rcases litC_cases l with h | h | h <;> omega
theorem tokL_codes (l : List UInt8) (k n c : Nat) (h : tokL l = (k, n, c)) : c = 0 ∨ c = 1 ∨ c = 10 := by
  match l, h with
  | [], h => simp [tokL] at h; omega
  | a :: r, h =>
    simp only [tokL] at h
    repeat' split at h
    all_goals
      simp only [Prod.mk.injEq] at h
      obtain ⟨_, _, rfl⟩ := h
      first | exact litC_codes _ | simp
theorem lexF_codes (s : ByteArray) : ∀ (f k : Nat) (acc : List Tk) (p c : Nat), lexF s f k acc = .error (p, c) → c = 1 ∨ c = 3 ∨ c = 10 ∨ c = 13
  | 0, _, _, _, _, h => by simp [lexF] at h
  | f + 1, k, acc, p, c, h => by
    have hr := lexF_round s f k acc
    by_cases he : nxt s k = s.size
    · rw [hr.1 he] at h; cases h
    · cases ht : tokL (s.data.toList.drop (nxt s k)) with | mk kd NC =>
      obtain ⟨N, d⟩ := NC
      have h2 := hr.2 he kd N d ht
      by_cases h0 : d = 0
      · by_cases hl : acc.length = 250
        · rw [h2.2.1 h0 hl] at h; cases h; simp
        · rw [h2.2.2 h0 hl] at h; exact lexF_codes s f _ _ p c h
      · rw [h2.1 h0] at h
        cases h
        rcases tokL_codes _ _ _ _ ht with h | h | h <;> omega
theorem lexL_codes (s : ByteArray) (p c : Nat) (h : lexL s = .error (p, c)) : c = 1 ∨ c = 3 ∨ c = 10 ∨ c = 13 := by
  unfold lexL at h
  split at h
  · cases h; simp
  · exact lexF_codes s _ _ _ p c h
/-- What Lex answers. -/
def LexIs (r : Except (Nat × Nat) (List Tk)) (w : World) (e : Ending) (w' : World) : Prop :=
  (∃ p c, r = .error (p, c) ∧ e = .returned (.tuple #[.slice none 0 0, .int .i64 (p : Nat), .int .i64 (c : Nat)]) ∧ w.grownBy w' none)
  ∨ (∃ t v, r = .ok t ∧ e = .returned (.tuple #[v, .int .i64 0, .int .i64 0]) ∧ w'.ownsRow w.heap.size 207 3 v t.length (t.flatMap Tk.c) ∧ w.grownBy w' none)
theorem HitF.grownX {w w' : World} {t : Nat} {x : Int} {ty : TypeId} {p : Value} (h : HitF w t x ty p w') : w.grownBy w' (some t) := by
  obtain ⟨w4, hg, rfl⟩ := h
  exact grown_setX (grown_setX (grown_noneX hg _) _ _) _ _
theorem HitF.cellsX {w w' : World} {t : Nat} {x : Int} {ty : TypeId} {p : Value} (h : HitF w t x ty p w') {o0 o1 : Value} (h0 : w.cell? ⟨t, 0, none⟩ = some o0) (h1 : w.cell? ⟨t, 1, none⟩ = some o1) : w'.cell? ⟨t, 0, none⟩ = some (.int .i64 x) ∧ w'.cell? ⟨t, 1, none⟩ = some (.iface ty p) := by
  obtain ⟨w4, hg, rfl⟩ := h
  have a0 := hg.cell h0 (by simp)
  have a1 := hg.cell h1 (by simp)
  have b0 : (w4.setCell ⟨t, 0, none⟩ (.int .i64 x)).cell? ⟨t, 0, none⟩ = some (.int .i64 x) := World.cell?_setCell_same w4 _ _ a0
  have b1 : (w4.setCell ⟨t, 0, none⟩ (.int .i64 x)).cell? ⟨t, 1, none⟩ = some o1 := (World.cell?_setCell_other w4 _ _ _ (by simp)).trans a1
  exact ⟨(World.cell?_setCell_other _ _ _ _ (by simp)).trans b0, World.cell?_setCell_same _ _ _ b1⟩
set_option maxHeartbeats 3200000 in
theorem Lex_any (G : Nat) (n g m l : Addr) (s : ByteArray) (w : World) (hE : LxEnv G n g m l w) :
    Calls Tryz.prog 60 #[.string s] w (LexIs (lexL s) w) := by
  have HA := Lib.hid (all_any G n g m l s w hE)
  have HE := Lib.hid hE
  have HCd := Lib.hid (lexL_codes s)
  clear hE
  generalize lexL s = r at *
  go_enter Tryz.func60, Tryz.ntmps60
  go_wp2_with fail
  refine (HA.out).mono ?_
  rintro e w1 (⟨p, c, ty, pv, hr, hv, rfl, hg⟩ | ⟨t, v, hr, rfl, ho, hg⟩)
  · have K1 := Lib.hid (hg.trans (World.grownBy_alloc w1 (.cells #[.int .i64 0, .nilIface] 165) none))
    have hz := hg.size
    obtain ⟨b0, b1⟩ := box2X w1 (.int .i64 0) .nilIface 165
    have E1 := HE.out.keep K1.out
    have hAs := as_hitF (p : Int) ty pv w1.heap.size G _ _ (w1.alloc (.cells #[.int .i64 0, .nilIface] 165)) E1.et b0 b1 (by simp) (by simp)
    have HAs := Lib.hid hAs
    have hc := HCd.out p c hr
    have HC := Lib.hid hc
    have HV := Lib.hid hv
    have HR := Lib.hid hr
    clear hg hAs E1 hr hv hc b0 b1
    go_wp2_with fail
    refine (HAs.out).mono ?_
    rintro e w2 ⟨rfl, hh⟩
    have K2 := Lib.hid (grown_thenX K1.out hh.grownX (fun j hj => by cases hj; exact hz))
    obtain ⟨c0, c1⟩ := hh.cellsX (box2X w1 (.int .i64 0) .nilIface 165).1 (box2X w1 (.int .i64 0) .nilIface 165).2
    have C2 := Lib.hid (And.intro c0 c1)
    have HNo : Hid (∀ W, w.grownBy W none → Calls Tryz.prog 81 #[.agg #[.int .i64 p, .iface ty pv]] W fun e w' => e = .returned (.int .i64 (c : Nat)) ∧ W.grownBy w' none) := Lib.hid fun W hW => by
      have := faultNo_any G n g m l p c HC.out W (HE.out.keep hW)
      rw [HV.out] at this
      exact this
    clear hh
    go_wp2_with fail
    go_region_with (go_at_call 81; (with_reducible refine (HNo.out _ (by first | exact grown_drew1X K2.out | exact K2.out)).mono ?_); rintro e w4 ⟨rfl, hg4⟩; have K4 := Lib.hid ((grown_drew1X K2.out).trans hg4); have x0 := hg4.cell C2.out.1 (by simp); have x1 := hg4.cell C2.out.2 (by simp); clear hg4)
    all_goals
      go_wp2_with fail
      go_ret3
      exact .inl ⟨_, _, HR.out, rfl, K4.out⟩
  · have K1 := Lib.hid (hg.trans (World.grownBy_alloc w1 (.cells #[.int .i64 0, .nilIface] 165) none))
    have O1 := Lib.hid (ho.alloc (.cells #[.int .i64 0, .nilIface] 165))
    have HR := Lib.hid hr
    clear hg ho hr
    have HN := Lib.hid as_nil
    go_wp2_with fail
    refine (HN.out _ _).mono ?_
    rintro e w2 ⟨rfl, rfl⟩
    go_wp2_with fail
    go_ret3
    exact .inr ⟨_, _, HR.out, rfl, O1.out, K1.out⟩
end Go.Proofs.YtppigamibgefaaaGreatDoor
namespace Go.Proofs.YtppigamibgefaaaGreatDoor
open Go.RowKit

/-- The first error as a value. -/
def errI : Option (Nat × Nat) → Value
  | .none => .nilIface
  | .some (p, c) => .iface 87 (.agg #[.int .i64 p, .iface 88 (.int .i64 c)])
/-- The reader at block R, its tokens in block b. -/
structure RdA (R b deep : Nat) (s : RS) (w : World) : Prop where
  at_ : ∃ o k, w.heap[R]? = some (.cells #[.slice (some ⟨b, o, none⟩) s.rest.length k, .int .i64 deep, errI s.err] 131 (0, 0)) ∧ s.rest.length ≤ k ∧ k ≤ maxLen ∧ ∀ j u, (s.rest.flatMap Tk.c)[j]? = some u → w.cell? ⟨b, o + j, none⟩ = some u
  ok : s.ok
  few : s.rest.length ≤ 260
  lt : b < w.heap.size
  ne : b ≠ R
  far : Far w
  gR : 12 ≠ R
  sz : ∀ t ∈ s.rest, t.text.size ≤ 1510
theorem RdA.lt' {R b deep : Nat} {s : RS} {w : World} (h : RdA R b deep s w) : R < w.heap.size := by
  obtain ⟨o, k, hb, _⟩ := h.at_
  exact (Array.getElem?_eq_some_iff.1 hb).1
theorem RdA.keep {R b deep : Nat} {s : RS} {w w' : World} (h : RdA R b deep s w) (hg : w.grownBy w' none) : RdA R b deep s w' := by
  have hlt := h.lt'
  obtain ⟨⟨o, k, hb, h1, h2, h3⟩, ok, few, lt, ne, ⟨tp, p, far⟩, gR, sz⟩ := h
  exact ⟨⟨o, k, (hg.block R hlt (by simp)).trans hb, h1, h2, fun j u hj => hg.cell (h3 j u hj) (by simp)⟩, ok, few, Nat.lt_of_lt_of_le lt hg.size, ne, ⟨tp, p, hg.cell far (by simp)⟩, gR, sz⟩
theorem grown_cellR (w : World) (g i : Nat) (u : Value) : w.grownBy (w.setCell ⟨g, i, none⟩ u) (some g) := ⟨rfl, rfl, rfl, by simp [World.setCell], fun _ _ hne => Below.heap_setCell _ _ _ _ (fun e => hne (by rw [e]))⟩
/-- The reader goes on to s', and nothing else that was there changes. -/
def RdGo (R b deep : Nat) (s' : RS) (w w' : World) : Prop := RdA R b deep s' w' ∧ w.grownBy w' (some R)
theorem RdGo.self {R b deep : Nat} {s : RS} {w : World} (h : RdA R b deep s w) : RdGo R b deep s w w := ⟨h, grown_reflT w _⟩
theorem grown_anyR {w w' : World} (h : w.grownBy w' none) (row : Option Nat) : w.grownBy w' row := ⟨h.os, h.tape, h.output, h.size, fun i hi _ => h.block i hi (by simp)⟩
theorem _root_.Go.World.grownBy.trans' {w w' w2 : World} {row : Option Nat} (h : w.grownBy w' none) (h2 : w'.grownBy w2 row) : w.grownBy w2 row := World.grownBy.trans (grown_anyR h row) h2
-- {w w' : World} (h : w.grownBy w' none) (row : Option Nat) : w.grownBy w' row := ⟨h.os, h.tape, h.output, h.size, fun i hi _ => h.block i hi (by simp)⟩
theorem RdGo.keep {R b deep : Nat} {s : RS} {w w' w2 : World} (h : RdGo R b deep s w w') (hg : w'.grownBy w2 none) : RdGo R b deep s w w2 := ⟨h.1.keep hg, h.2.trans (grown_anyR hg _)⟩
theorem RdGo.then {R b deep : Nat} {s t : RS} {w w' w2 : World} (h : RdGo R b deep s w w') (h2 : RdGo R b deep t w' w2) : RdGo R b deep t w w2 := ⟨h2.1, h.2.trans h2.2⟩
theorem tk_drop (l : List Tk) (i : Nat) (j : Nat) (u : Value) (h : ((l.drop i).flatMap Tk.c)[j]? = some u) (hi : i ≤ l.length) : (l.flatMap Tk.c)[i * 3 + j]? = some u := by
  have e : l.flatMap Tk.c = (l.take i).flatMap Tk.c ++ (l.drop i).flatMap Tk.c := by rw [← List.flatMap_append, List.take_append_drop]
  rw [e, List.getElem?_append_right (by rw [tk_len, List.length_take]; omega), tk_len, List.length_take, show i * 3 + j - min i l.length * 3 = j by rw [Nat.min_eq_left hi]; omega]
  exact h
/-- Behind i tokens more, with another error or the same. -/
theorem RdA.move {R b deep : Nat} {s : RS} {w : World} (h : RdA R b deep s w) {o k : Nat} (hc : ∀ j u, (s.rest.flatMap Tk.c)[j]? = some u → w.cell? ⟨b, o + j, none⟩ = some u) (hk : k ≤ maxLen) (hl : s.rest.length ≤ k)
    {i : Nat} (hi : i < s.rest.length) (s' : RS) (hr : s'.rest = s.rest.drop i) (hok : s'.ok) {w' : World} (hb' : w'.heap[R]? = some (.cells #[.slice (some ⟨b, o + i * 3, none⟩) (s.rest.length - i) (k - i), .int .i64 deep, errI s'.err] 131 (0, 0))) (hg : w.grownBy w' (some R)) : RdGo R b deep s' w w' := by
  have hne := h.ne
  have hgR := h.gR
  obtain ⟨tp, p, far⟩ := h.far
  refine ⟨⟨⟨o + i * 3, k - i, ?_, ?_, by omega, fun j u hj => ?_⟩, hok, ?_, Nat.lt_of_lt_of_le h.lt hg.size, hne, ⟨tp, p, hg.cell far (by simp; exact hgR)⟩, hgR, fun t ht => h.sz t (List.mem_of_mem_drop (hr ▸ ht))⟩, hg⟩
  · rw [hr, List.length_drop]; exact hb'
  · rw [hr, List.length_drop]; omega
  · rw [hr] at hj
    have := hc _ u (tk_drop s.rest i j u hj (by omega))
    rw [Nat.add_assoc]
    exact hg.cell this (by simp; exact hne)
  · have := h.few
    rw [hr, List.length_drop]; omega
theorem RdA.hd {R b deep : Nat} {s : RS} {w : World} (h : RdA R b deep s w) : ∃ o k, w.cell? ⟨R, 0, none⟩ = some (.slice (some ⟨b, o, none⟩) s.rest.length k) ∧ 1 ≤ s.rest.length ∧ s.rest.length ≤ k ∧ k ≤ maxLen ∧ w.cell? ⟨b, o, none⟩ = some (.int .i64 s.hd.kind) ∧ w.cell? ⟨b, o + 1, none⟩ = some (.string s.hd.text) ∧ w.cell? ⟨b, o + 2, none⟩ = some (.int .i64 s.hd.pos) := by
  obtain ⟨⟨o, k, hb, h1, h2, h3⟩, ok, _, _, _, _, _, _⟩ := h
  obtain ⟨r, hr⟩ := ok.hd
  have e : s.rest.flatMap Tk.c = [.int .i64 s.hd.kind, .string s.hd.text, .int .i64 s.hd.pos] ++ r.flatMap Tk.c := by
    conv => lhs; rw [hr]
    rfl
  refine ⟨o, k, ?_, ok.pos, h1, h2, ?_, ?_, ?_⟩
  · rw [cell_of_row _ _ 0 _ _ _ hb]; rfl
  · have := h3 0 (.int .i64 s.hd.kind) (by rw [e]; rfl)
    simpa using this
  · exact h3 1 _ (by rw [e]; rfl)
  · exact h3 2 _ (by rw [e]; rfl)
set_option maxRecDepth 100000 in
theorem comes_any (R b deep : Nat) (s : RS) (w : World) (h : RdA R b deep s w) :
    Calls Tryz.prog 118 #[.pointer (some ⟨R, 0, none⟩)] w fun e w' => e = .returned (.agg #[.int .i64 s.hd.kind, .string s.hd.text, .int .i64 s.hd.pos]) ∧ w.grownBy w' none := by
  obtain ⟨o, k, c0, h1, h2, h3, d0, d1, d2⟩ := h.hd
  have n0 : (0 : Int) < s.rest.length := by omega
  have lR := h.lt'
  have lb := h.lt
  generalize s.rest.length = n at *
  generalize s.hd.kind = kd at *
  generalize s.hd.text = tx at *
  generalize s.hd.pos = ps at *
  clear h
  go_enter Tryz.func118, Tryz.ntmps118
  go_wp2_with fail
  exact bodyPost_ret (v := .agg #[.int .i64 kd, .string tx, .int .i64 ps]) (by simp [results, Tryz.results118, go_sem]) rfl ⟨rfl, World.grownBy_alloc _ _ _⟩
set_option maxRecDepth 100000 in
theorem pass_any (R b deep : Nat) (s : RS) (w : World) (h : RdA R b deep s w) (hm : s.more) :
    Calls Tryz.prog 119 #[.pointer (some ⟨R, 0, none⟩)] w fun e w' => e = .returned (.tuple #[]) ∧ RdGo R b deep s.pass w w' := by
  obtain ⟨o, k, hb, h1, h2, h3⟩ := h.at_
  have hl := h.ok.long hm
  have hp := (h.ok.pass hm).1
  have c0 := cell_of_row _ _ 0 _ _ _ hb
  simp at c0
  have f0 := frozen_of_row _ _ 0 _ _ hb
  have HF := Lib.hid (fun (w' : World) (hb' : w'.heap[R]? = some (.cells #[.slice (some ⟨b, o + 1 * 3, none⟩) (s.rest.length - 1) (k - 1), .int .i64 deep, errI s.err] 131 (0, 0))) (hg : w.grownBy w' (some R)) => h.move h3 h2 h1 (i := 1) (by omega) s.pass rfl hp hb' hg)
  have HB := Lib.hid hb
  generalize s.rest.length = n at *
  have n0 : (1 : Int) ≤ n := by omega
  have n1 : (n : Int) ≤ k := by omega
  have n2 : ¬ k = 1 := by omega
  clear h h3 hp hb
  go_enter Tryz.func119, Tryz.ntmps119
  go_wp2_with fail
  go_end0
  have e := heap_setCell_same w R 0 _ _ (.slice (some ⟨b, o + 3, none⟩) (n - 1) (k - 1)) HB.out
  exact ⟨rfl, HF.out _ (by simpa using e) (grown_cellR w R 0 _)⟩
set_option maxRecDepth 100000 in
theorem field_tk0 (x y z : Value) (w : World) : (Instr.field 207 (.agg #[x, y, z]) 0).run Tryz.prog w = .ok x w := rfl
set_option maxRecDepth 100000 in
theorem field_tk1 (x y z : Value) (w : World) : (Instr.field 207 (.agg #[x, y, z]) 1).run Tryz.prog w = .ok y w := rfl
set_option maxRecDepth 100000 in
theorem field_tk2 (x y z : Value) (w : World) : (Instr.field 207 (.agg #[x, y, z]) 2).run Tryz.prog w = .ok z w := rfl
theorem errI_some (p c : Nat) : errI (some (p, c)) = .iface 87 (.agg #[.int .i64 p, .iface 88 (.int .i64 c)]) := rfl
set_option maxRecDepth 100000 in
theorem wrong_any (R b deep : Nat) (s : RS) (c : Nat) (w : World) (h : RdA R b deep s w) :
    Calls Tryz.prog 117 #[.pointer (some ⟨R, 0, none⟩), .int .i64 c] w fun e w' => e = .returned (.tuple #[]) ∧ RdGo R b deep (s.wrong c) w w' := by
  obtain ⟨o, k, hb, h1, h2, h3⟩ := h.at_
  have hl := h.ok.pos
  have hp := (h.ok.wrong c).1
  have c0 := cell_of_row _ _ 0 _ _ _ hb
  have c2 := cell_of_row _ _ 2 _ _ _ hb
  simp at c0 c2
  have f0 := frozen_of_row _ _ 0 _ _ hb
  have f2 := frozen_of_row _ _ 2 _ _ hb
  have HF := Lib.hid (fun (w' : World) (hb' : w'.heap[R]? = some (.cells #[.slice (some ⟨b, o + (s.rest.length - 1) * 3, none⟩) (s.rest.length - (s.rest.length - 1)) (k - (s.rest.length - 1)), .int .i64 deep, errI (s.wrong c).err] 131 (0, 0))) (hg : w.grownBy w' (some R)) => h.move h3 h2 h1 (i := s.rest.length - 1) (by omega) (s.wrong c) rfl hp hb' hg)
  have HB := Lib.hid hb
  have HC := Lib.hid (comes_any R b deep s w h)
  have lR := h.lt'
  have he : (s.wrong c).err = some (s.err.getD (s.hd.pos, c)) := rfl
  rw [he] at HF
  have hf := h.few
  obtain ⟨n, hn⟩ : ∃ n, n + 1 = s.rest.length := ⟨s.rest.length - 1, by omega⟩
  rw [← hn] at HF HB c0 h1 hf
  rw [show n + 1 - 1 = n by omega, show n + 1 - n = 1 by omega] at HF
  generalize s.hd.kind = kd at *
  generalize s.hd.text = tx at *
  generalize s.hd.pos = ps at *
  have n1 : ((n : Int) + 1) ≤ k := by omega
  have n2 : ¬ k = n := by omega
  have n3 : (n : Int) ≤ k := by omega
  have n4 : IntKind.i64.wrap ((n : Int) + 1 - 1) = (n : Int) := by rw [IntKind.wrap_i64]; omega
  have n5 : (0 : Int) ≤ n := by omega
  cases hse : s.err with
  | none =>
    rw [hse] at HF HB c2
    simp only [Option.getD_none] at HF
    clear h h3 hp hb hn hl he hse
    simp only [errI] at c2
    go_enter Tryz.func117, Tryz.ntmps117
    go_wp2_with fail
    refine HC.out.mono ?_
    rintro e w2 ⟨rfl, hg⟩
    have d0 := hg.cell c0 (by simp)
    have d2 := hg.cell c2 (by simp)
    have B2 := Lib.hid ((hg.block R lR (by simp)).trans HB.out)
    have G2 := Lib.hid hg
    have lR2 : R < w2.heap.size := Nat.lt_of_lt_of_le lR hg.size
    have f0 := frozen_of_row _ _ 0 _ _ B2.out
    have f2 := frozen_of_row _ _ 2 _ _ B2.out
    have t2 := field_tk2 (.int .i64 kd) (.string tx) (.int .i64 ps) w2
    clear hg c0 c2
    go_wp2_with fail
    have e2 := heap_setCell_same w2 R 2 _ _ (errI (some (ps, c))) B2.out
    simp only [errI] at e2
    have gr := G2.out.trans' (grown_cellR w2 R 2 (errI (some (ps, c))))
    simp only [errI] at gr
    generalize w2.setCell ⟨R, 2, none⟩ (.iface 87 (.agg #[.int .i64 ps, .iface 88 (.int .i64 c)])) = W at *
    have GR := Lib.hid gr
    have E2 := Lib.hid e2
    have x0 := cell_of_row _ _ 0 _ _ _ e2
    have y0 := frozen_of_row _ _ 0 _ _ e2
    simp at x0
    clear gr e2 d0 d2 t2 f0 f2 lR2
    go_region
    go_wp2_with fail
    go_end0
    have e := heap_setCell_same W R 0 _ _ (.slice (some ⟨b, o + n * 3, none⟩) 1 (k - n)) E2.out
    exact ⟨rfl, HF.out _ (by rw [heap_drew]; simpa [errI] using e) (grown_drewT (GR.out.trans (grown_cellR W R 0 _)))⟩
  | some p =>
    obtain ⟨p0, c0'⟩ := p
    rw [hse] at HF HB c2
    simp only [Option.getD_some] at HF
    clear h h3 hp hb hn hl he hse
    simp only [errI] at c2
    go_enter Tryz.func117, Tryz.ntmps117
    go_wp2_with fail
    go_region
    go_wp2_with fail
    go_end0
    have e := heap_setCell_same w R 0 _ _ (.slice (some ⟨b, o + n * 3, none⟩) 1 (k - n)) HB.out
    exact ⟨rfl, HF.out _ (by rw [heap_drew]; simpa [errI] using e) (grown_drewT (grown_cellR w R 0 _))⟩
theorem str_ne {s t : ByteArray} (h : ¬ s = t) : (s.toList == t.toList) = false := by
  rw [beq_eq_false_iff_ne]
  intro e
  rw [Lib.toList_data, Lib.toList_data] at e
  exact h (bytes_ext e)
theorem RS.took_yes {s : RS} {t : ByteArray} (h : s.comes t = true) : s.took t = (s.pass, true) := if_pos h
theorem RS.took_no {s : RS} {t : ByteArray} (h : s.comes t = false) : s.took t = (s, false) := if_neg (by simp [h])
set_option maxRecDepth 100000 in
theorem took_any (R b deep : Nat) (s : RS) (t : ByteArray) (w : World) (h : RdA R b deep s w) (ht : t ≠ ⟨#[]⟩) :
    Calls Tryz.prog 83 #[.pointer (some ⟨R, 0, none⟩), .string t] w fun e w' => e = .returned (.bool (s.comes t)) ∧ RdGo R b deep (if s.comes t then s.pass else s) w w' := by
  have HC := Lib.hid (comes_any R b deep s w h)
  have HS := Lib.hid h
  cases hc : s.comes t with
  | true =>
    have HP := Lib.hid (fun W (hW : w.grownBy W none) => pass_any R b deep s W (h.keep hW) (RS.more_of ht hc))
    have he : s.hd.text = t := of_decide_eq_true hc
    rw [he] at HC
    generalize s.hd.kind = kd at *
    generalize s.hd.pos = ps at *
    clear h he hc
    go_enter Tryz.func83, Tryz.ntmps83
    go_wp2_with fail
    refine HC.out.mono ?_
    rintro e w2 ⟨rfl, hg⟩
    have G2 := Lib.hid hg
    have t1 := field_tk1 (.int .i64 kd) (.string t) (.int .i64 ps) w2
    clear hg
    go_wp2_with fail
    refine (HP.out _ G2.out).mono ?_
    rintro e w3 ⟨rfl, hr⟩
    go_wp2_with fail
    go_ret
    exact ⟨rfl, hr.1, G2.out.trans' hr.2⟩
  | false =>
    have he : ¬ s.hd.text = t := of_decide_eq_false hc
    generalize s.hd.kind = kd at *
    generalize s.hd.pos = ps at *
    generalize s.hd.text = tx at *
    have he2 := str_ne he
    clear h hc
    go_enter Tryz.func83, Tryz.ntmps83
    go_wp2_with fail
    refine HC.out.mono ?_
    rintro e w2 ⟨rfl, hg⟩
    have G2 := Lib.hid hg
    have t1 := field_tk1 (.int .i64 kd) (.string tx) (.int .i64 ps) w2
    clear hg
    go_wp2_with fail
    go_ret
    exact ⟨rfl, (RdGo.self HS.out).keep G2.out⟩
set_option maxRecDepth 100000 in
theorem need_any (R b deep : Nat) (s : RS) (t : ByteArray) (w : World) (h : RdA R b deep s w) (ht : t ≠ ⟨#[]⟩) :
    Calls Tryz.prog 82 #[.pointer (some ⟨R, 0, none⟩), .string t] w fun e w' => e = .returned (.tuple #[]) ∧ RdGo R b deep (s.need t) w w' := by
  have HT := Lib.hid (took_any R b deep s t w h ht)
  have HW := Lib.hid (fun W (hW : RdA R b deep s W) => wrong_any R b deep s 11 W hW)
  unfold RS.need
  clear h
  cases hc : s.comes t with
  | true =>
    rw [hc] at HT
    simp only [if_true] at HT ⊢
    clear hc
    go_enter Tryz.func82, Tryz.ntmps82
    go_wp2_with fail
    refine HT.out.mono ?_
    rintro e w2 ⟨rfl, hg⟩
    go_wp2_with fail
    go_end0
    exact ⟨rfl, hg⟩
  | false =>
    rw [hc] at HT
    simp only [Bool.false_eq_true, if_false] at HT ⊢
    clear hc
    go_enter Tryz.func82, Tryz.ntmps82
    go_wp2_with fail
    refine HT.out.mono ?_
    rintro e w2 ⟨rfl, hg⟩
    have G := Lib.hid hg
    clear hg
    go_wp2_with fail
    refine (HW.out _ G.out.1).mono ?_
    rintro e w3 ⟨rfl, hr⟩
    go_wp2_with fail
    go_end0
    exact ⟨rfl, G.out.then hr⟩
set_option maxRecDepth 100000 in
theorem end_any (R b deep : Nat) (s : RS) (w : World) (h : RdA R b deep s w) :
    Calls Tryz.prog 94 #[.pointer (some ⟨R, 0, none⟩)] w fun e w' => e = .returned (.tuple #[]) ∧ RdGo R b deep s.fin w w' := by
  have HC := Lib.hid (comes_any R b deep s w h)
  have HW := Lib.hid (fun W (hW : RdA R b deep s W) => wrong_any R b deep s 11 W hW)
  have HS := Lib.hid h
  unfold RS.fin
  generalize s.hd.pos = ps at *
  generalize s.hd.text = tx at *
  clear h
  by_cases hk : s.hd.kind = 0
  · rw [if_pos hk]
    rw [hk, show ((0 : Nat) : Int) = 0 from rfl] at HC
    clear hk
    go_enter Tryz.func94, Tryz.ntmps94
    go_wp2_with fail
    refine HC.out.mono ?_
    rintro e w2 ⟨rfl, hg⟩
    have G2 := Lib.hid hg
    have t1 := field_tk0 (.int .i64 0) (.string tx) (.int .i64 ps) w2
    clear hg
    go_wp2_with fail
    go_end0
    exact ⟨rfl, (RdGo.self HS.out).keep G2.out⟩
  · rw [if_neg hk]
    generalize s.hd.kind = kd at *
    have hk2 : ¬ (kd : Int) = 0 := by omega
    have hk3 : ((kd : Int) != 0) = true := by simpa using hk2
    go_enter Tryz.func94, Tryz.ntmps94
    go_wp2_with fail
    refine HC.out.mono ?_
    rintro e w2 ⟨rfl, hg⟩
    have G2 := Lib.hid hg
    have t1 := field_tk0 (.int .i64 kd) (.string tx) (.int .i64 ps) w2
    clear hg
    go_wp2_with fail
    refine (HW.out _ (HS.out.keep G2.out)).mono ?_
    rintro e w3 ⟨rfl, hr⟩
    go_wp2_with fail
    go_end0
    exact ⟨rfl, hr.1, G2.out.trans' hr.2⟩
set_option maxRecDepth 100000 in
theorem pnamed_any (R b deep : Nat) (s : RS) (w : World) (h : RdA R b deep s w) :
    Calls Tryz.prog 121 #[.pointer (some ⟨R, 0, none⟩)] w fun e w' => e = .returned (.bool s.named) ∧ w.grownBy w' none := by
  have HC := Lib.hid (comes_any R b deep s w h)
  unfold RS.named
  generalize s.hd.pos = ps at *
  generalize s.hd.text = tx at *
  generalize s.hd.kind = kd at *
  clear h
  go_enter Tryz.func121, Tryz.ntmps121
  go_wp2_with fail
  refine HC.out.mono ?_
  rintro e w2 ⟨rfl, hg⟩
  have t1 := field_tk0 (.int .i64 kd) (.string tx) (.int .i64 ps) w2
  go_wp2_with fail
  go_ret
  have hd : decide (kd = 1) = ((kd : Int) == 1) := by
    by_cases e : kd = 1
    · subst e; rfl
    · have h2 : ((kd : Int) == 1) = false := by rw [beq_eq_false_iff_ne]; omega
      simp [e, h2]
  rw [hd]
  exact ⟨rfl, hg⟩
set_option maxRecDepth 100000 in
theorem pname_any (R b deep : Nat) (s : RS) (w : World) (h : RdA R b deep s w) :
    Calls Tryz.prog 87 #[.pointer (some ⟨R, 0, none⟩)] w fun e w' => e = .returned (.string s.name.2) ∧ RdGo R b deep s.name.1 w w' := by
  have HN := Lib.hid (pnamed_any R b deep s w h)
  have HS := Lib.hid h
  unfold RS.name
  cases hc : s.named with
  | true =>
    have HC := Lib.hid (fun W (hW : w.grownBy W none) => comes_any R b deep s W (h.keep hW))
    have HP := Lib.hid (fun W (hW : w.grownBy W none) => pass_any R b deep s W (h.keep hW) (RS.more_named hc))
    rw [hc] at HN
    simp only [if_true]
    generalize s.hd.pos = ps at *
    generalize s.hd.text = tx at *
    generalize s.hd.kind = kd at *
    clear h hc
    go_enter Tryz.func87, Tryz.ntmps87
    go_wp2_with fail
    refine HN.out.mono ?_
    rintro e w2 ⟨rfl, hg⟩
    have G2 := Lib.hid hg
    clear hg
    go_wp2_with fail
    refine (HC.out _ G2.out).mono ?_
    rintro e w3 ⟨rfl, hg⟩
    have G3 := Lib.hid (G2.out.trans hg)
    have t1 := field_tk1 (.int .i64 kd) (.string tx) (.int .i64 ps) w3
    clear hg
    go_wp2_with fail
    refine (HP.out _ G3.out).mono ?_
    rintro e w4 ⟨rfl, hr⟩
    go_wp2_with fail
    go_ret
    exact ⟨rfl, hr.1, G3.out.trans' hr.2⟩
  | false =>
    have HW := Lib.hid (fun W (hW : w.grownBy W none) => wrong_any R b deep s 11 W (h.keep hW))
    rw [hc] at HN
    simp only [Bool.false_eq_true, if_false]
    clear h hc
    go_enter Tryz.func87, Tryz.ntmps87
    go_wp2_with fail
    refine HN.out.mono ?_
    rintro e w2 ⟨rfl, hg⟩
    have G2 := Lib.hid hg
    clear hg
    go_wp2_with fail
    refine (HW.out _ G2.out).mono ?_
    rintro e w3 ⟨rfl, hr⟩
    go_wp2_with fail
    go_ret
    exact ⟨rfl, hr.1, G2.out.trans' hr.2⟩
end Go.Proofs.YtppigamibgefaaaGreatDoor
