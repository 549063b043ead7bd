/- The contract of lex's all. Predicates in memory. The contract of lex's Lex. -/
import Derived.Test.YtjaclmoobfeikaaGreatDoorZl20
import Derived.Test.YtjaclmoobfeikaaGreatDoorZl13
import Derived.Deep.MidRow
import Derived.Test.YtjaclmoobfeikaaGreatDoorZl18
namespace Go.Proofs.YtjaclmoobfeikaaGreatDoor
open Go.RowKit

def Tk.c (t : Tk) : List Value := [.int .i64 t.kind, .string t.text, .int .i64 t.pos]
theorem tk_info : (Tryz.prog.info? 174).map (fun i => (i.zero, i.size, i.bytes)) = some (some (.agg #[.int .i64 0, .string ⟨#[]⟩, .int .i64 0]), 3, 32) := by kernel_rfl
theorem info_partsX {o : Option TypeInfo} {z : Value} {s b : Nat} (h : o.map (fun i => (i.zero, i.size, i.bytes)) = some (some z, s, b)) : ∃ i, o = some i ∧ i.zero = some z ∧ i.size = s ∧ i.bytes = b := by
  cases o with
  | none => simp at h
  | some i => simp at h; exact ⟨i, rfl, h.1, h.2.1, h.2.2⟩
theorem errV_iface (n g m l : Addr) (c : Nat) (hc : c ≠ 0) : ∃ ty pv, errV n g m l c = .iface ty pv := by
  unfold errV
  split <;> first | (exact absurd rfl hc) | exact ⟨_, _, rfl⟩
theorem tokL_kind (l : List UInt8) (kd N : Nat) (h : tokL l = (kd, N, 0)) : kd ≠ 0 := by
  match l, h with
  | [], h => simp [tokL] at h
  | a :: r, h =>
    simp only [tokL] at h
    repeat' split at h
    all_goals (simp only [Prod.mk.injEq] at h; omega)
theorem tk_len (l : List Tk) : (l.flatMap Tk.c).length = l.length * 3 := by
  induction l with
  | nil => rfl
  | cons t r ih => rw [List.flatMap_cons, List.length_append, ih, List.length_cons]; simp [Tk.c]; omega
theorem tk_snoc (l : List Tk) (t : Tk) : (l ++ [t]).flatMap Tk.c = l.flatMap Tk.c ++ t.c := by simp
/-- What all answers. -/
def AllIs (n g m l : Addr) (r : Except (Nat × Nat) (List Tk)) (w : World) (e : Ending) (w' : World) : Prop :=
  (∃ p c ty pv, r = .error (p, c) ∧ errV n g m l c = .iface ty pv ∧ e = .returned (.tuple #[.slice none 0 0, .iface 125 (.agg #[.int .i64 (p : Nat), .iface ty pv])]) ∧ w.grownBy w' none)
  ∨ (∃ t v, r = .ok t ∧ e = .returned (.tuple #[v, .nilIface]) ∧ w'.ownsRow w.heap.size 174 3 v t.length (t.flatMap Tk.c) ∧ w.grownBy w' none)
/-- One round of the reading. -/
theorem lexF_round (s : ByteArray) (f k : Nat) (acc : List Tk) :
    (nxt s k = s.size → lexF s (f + 1) k acc = .ok (acc ++ [⟨0, ⟨#[]⟩, s.size⟩])) ∧
    (nxt s k ≠ s.size → ∀ kd N c, tokL (s.data.toList.drop (nxt s k)) = (kd, N, c) →
      (c ≠ 0 → lexF s (f + 1) k acc = .error (nxt s k, c)) ∧
      (c = 0 → acc.length = 250 → lexF s (f + 1) k acc = .error (nxt s k, 3)) ∧
      (c = 0 → acc.length ≠ 250 → lexF s (f + 1) k acc = lexF s f (nxt s k + N) (acc ++ [⟨kd, s.extract (nxt s k) (nxt s k + N), nxt s k⟩]))) := by
  unfold nxt
  constructor
  · intro h
    rw [lexF, if_pos h]
  · intro h kd N c ht'
    refine ⟨fun hc => ?_, fun hc hl => ?_, fun hc hl => ?_⟩
    · obtain ⟨d, rfl⟩ : ∃ d, c = d + 1 := ⟨c - 1, by omega⟩
      rw [lexF, if_neg h, ht']
    · subst hc
      rw [lexF, if_neg h, ht']; simp only [hl, if_true]
    · subst hc
      rw [lexF, if_neg h, ht']; simp only [hl, if_false]
theorem grown_thenX {a b c : World} {row row' : Option Nat} (h : a.grownBy b row) (k : b.grownBy c row') (hr : ∀ j, row' = some j → a.heap.size ≤ j) : a.grownBy c row :=
  ⟨k.os.trans h.os, k.tape.trans h.tape, k.output.trans h.output, Nat.le_trans h.size k.size, fun i hi hne => (k.block i (Nat.lt_of_lt_of_le hi h.size) (fun e => by have := hr i e.symm; omega)).trans (h.block i hi hne)⟩
theorem own_monoX {w : World} {B B' : Nat} {e : TypeId} {k : Nat} {v : Value} {n : Nat} {xs : List Value} (h : w.ownsRow B e k v n xs) (hB : B' ≤ B) : w.ownsRow B' e k v n xs :=
  ⟨h.1, h.2.imp id fun ⟨g, cap, cur, hv, hb, r⟩ => ⟨g, cap, cur, hv, Nat.le_trans hB hb, r⟩⟩
theorem slice_of_ownX {w : World} {B : Nat} {e : TypeId} {k : Nat} {v : Value} {n : Nat} {xs : List Value} (h : w.ownsRow B e k v n xs) : ∃ ao cap, v = .slice ao n cap := by
  rcases h.2 with ⟨hv, h0⟩ | ⟨g, cap, cur, hv, _⟩
  · exact ⟨none, 0, by rw [hv, h0]⟩
  · exact ⟨_, _, hv⟩
theorem own_tk {w : World} {B B' : Nat} {v : Value} {N : Nat} {acc : List Tk} {x : Tk} {xs : List Value} (h : w.ownsRow B 174 3 v (N + 1) (acc.flatMap Tk.c ++ xs)) (hN : N = acc.length) (hx : x.c = xs) (hB : B' ≤ B) :
    w.ownsRow B' 174 3 v (acc ++ [x]).length ((acc ++ [x]).flatMap Tk.c) := by
  rw [tk_snoc, hx, List.length_append, ← hN]
  exact own_monoX h hB
theorem Cur.keepR {G ba bt : Nat} {s : ByteArray} {k : Nat} {w w' : World} {row : Option Nat} (h : Cur G ba bt s k w) (hg : w.grownBy w' row) (hr : ∀ j, row = some j → j ≠ ba ∧ j ≠ bt) : Cur G ba bt s k w' :=
  ⟨hg.cell h.a (fun e => (hr ba e.symm).1 rfl), (hg.frozen_far ⟨ba, 0, none⟩ (World.block_lt_of_cell? w _ h.a) (fun e => (hr ba e.symm).1 rfl)).trans h.fa, hg.cell h.t (fun e => (hr bt e.symm).2 rfl), h.ne, h.ga⟩
/-- The closure's place, out of memory. -/
def curN (ba : Nat) (w : World) : Nat := match w.cell? ⟨ba, 0, none⟩ with | some (.int _ x) => x.toNat | _ => 0
theorem Cur.n {G ba bt : Nat} {s : ByteArray} {k : Nat} {w : World} (h : Cur G ba bt s k w) : curN ba w = k := by unfold curN; rw [h.a]; simp
theorem three_new (W : World) (v0 v1 v2 : Value) (T : TypeId) (j : Nat) (u : Value) (h : [v0, v1, v2][j]? = some u) : (W.alloc (.cells #[v0, v1, v2] T)).cell? ((⟨W.heap.size, 0, none⟩ : Addr).add j) = some u := by
  have e := heap_alloc_new W (.cells #[v0, v1, v2] T)
  match j, h with
  | 0, h => exact (cell_of_row _ _ 0 _ _ _ e).trans h
  | 1, h => exact (cell_of_row _ _ 1 _ _ _ e).trans h
  | 2, h => exact (cell_of_row _ _ 2 _ _ _ e).trans h
  | j + 3, h => simp at h
set_option maxRecDepth 100000 in
set_option maxHeartbeats 6400000 in
theorem all_any (G : Nat) (n g m l : Addr) (s : ByteArray) (w : World) (hE : LxEnv G n g m l w) :
    Calls Tryz.prog 49 #[.string s] w (AllIs n g m l (lexL s) w) := by
  by_cases hbig : 1500 < s.size
  · have hL : lexL s = .error (1500, 13) := by unfold lexL; rw [if_pos hbig]
    rw [hL]
    have cv := hE.sl.var
    have hb : (1500 : Int) < s.size := by omega
    clear hL hbig hE
    go_enter Tryz.func49, Tryz.ntmps49
    go_wp2_with fail
    go_quiet (fail)
    go_wp2_with fail
    go_ret2
    exact .inl ⟨1500, 13, _, _, rfl, rfl, rfl, grown_drewX (grown_reflX _ _) _⟩
  · have hL : lexL s = lexF s (s.size + 1) 0 [] := by unfold lexL; rw [if_neg hbig]
    rw [hL]
    have hs : s.size ≤ 1510 := by omega
    have hb : (s.size : Int) ≤ 1500 := by omega
    have HT := Lib.hid (tokens_any G s w hE.le)
    have HE := Lib.hid hE
    obtain ⟨r, hr⟩ : ∃ r, r = lexF s (s.size + 1) 0 [] := ⟨_, rfl⟩
    rw [← hr]
    have HR := Lib.hid hr
    clear hL hbig hE hr
    obtain ⟨i0, hi, hz0, hz1, hz2⟩ := info_partsX tk_info
    go_enter Tryz.func49, Tryz.ntmps49
    go_wp2_with fail
    refine (HT.out).mono ?_
    rintro e w1 ⟨⟨ba, bt, rfl, hC, hba1, hba2⟩, hg1⟩
    have C1 := Lib.hid hC
    have G1 := Lib.hid hg1
    clear hC hg1
    go_wp2_with fail
    go_loopw [4] (fun v wr => ∃ (k f : Nat) (acc : List Tk) (N : Nat), k ≤ s.size ∧ s.size - k < f ∧ N ≤ 250 ∧ Hid (N = acc.length) ∧ Hid (r = lexF s f k acc) ∧ Hid (wr.ownsRow w1.heap.size 174 3 v N (acc.flatMap Tk.c)) ∧ Hid (Cur G ba bt s k wr) ∧ Hid (w1.grownBy wr (some ba)) ) (fun _ wr => s.size - curN ba wr)
    case atStart => exact ⟨0, s.size + 1, [], 0, by omega, by omega, by omega, Lib.hid rfl, Lib.hid HR.out, Lib.hid ⟨rfl, .inl ⟨rfl, rfl⟩⟩, C1, Lib.hid (grown_reflX _ _)⟩
    case round =>
      obtain ⟨k, f, acc, N, hk, hf, hN, HN, HRr, HO, HC, HG⟩ := hrel
      obtain ⟨ao, cp, rfl⟩ := slice_of_ownX HO.out
      obtain ⟨f, rfl⟩ : ∃ f', f = f' + 1 := ⟨f - 1, by omega⟩
      have hq := nxt_le s k hk
      have HEr := Lib.hid ((HE.out.keep G1.out).keepR HG.out HC.out.ga)
      have hrd := lexF_round s f k acc
      have hro := HO.out.lt
      have hne : (Value.slice ao N cp).ownBlock ≠ some ba := fun e => by have := (hro ba e).1; omega
      have GW := Lib.hid (grown_thenX G1.out HG.out (fun j hj => by cases hj; exact hba2))
      by_cases hend : nxt s k = s.size
      · have hrr := HRr.out.trans (hrd.1 hend)
        have HRR := Lib.hid hrr
        have HX := Lib.hid (next_end G ba bt k s wr HC.out hk hs hend)
        clear hrd hrr hend hq hf hk
        go_wp2_with fail
        refine (HX.out).mono ?_
        rintro e w2 ⟨rfl, hgo⟩
        have O2 := Lib.hid (HO.out.kept hgo.1 (.inr hne))
        have GO := Lib.hid hgo
        clear hgo
        have hs2 : w1.heap.size ≤ w2.heap.size := Nat.le_trans HG.out.size GO.out.1.size
        go_wp2_with (at_builtin; refine wpList_append_own _ rfl (.tmp 29) (.tmp 31) 94 rfl w1.heap.size 174 i0 (.agg #[.int .i64 0, .string ⟨#[]⟩, .int .i64 0]) 3 32 Tryz.underlying94 hi hz0 hz1 hz2 rfl (by decide) _ _ _ rfl ((O2.out.alloc _).alloc _) ⟨w2.heap.size + 1, 0, none⟩ 1 1 [.int .i64 0, .string ⟨#[]⟩, .int .i64 (s.size : Nat)] rfl rfl ?a1 ?a2 ?a3 ?a4 ?a5 ?_)
        case a1 =>
          intro j u h
          have := three_new (w2.alloc (.cells #[.int .i64 0, .string ⟨#[]⟩, .int .i64 (s.size : Nat)] 174)) _ _ _ 174 j u h
          rw [World.size_alloc] at this
          exact this
        case a2 => intro u hu; simp at hu; rcases hu with rfl | rfl | rfl <;> rfl
        case a3 => unfold maxLen; omega
        case a4 => omega
        case a5 => simp; omega
        intro v' w3 hown' hgrow _
        have O3 := Lib.hid hown'
        have G3 := Lib.hid (grown_thenX (grown_thenX GW.out GO.out.1 (fun j hj => by cases hj; exact hba2)) (((World.grownBy_alloc _ _ _).trans (World.grownBy_alloc _ _ _)).trans hgrow) (fun j hj => by have := (hro j hj).1; have := G1.out.size; omega))
        clear hown' hgrow
        go_wp2_with fail
        go_ret2
        exact .inr ⟨_, _, HRR.out, rfl, own_tk O3.out HN.out rfl G1.out.size, G3.out⟩
      · cases ht : tokL (s.data.toList.drop (nxt s k)) with | mk kd NC =>
        obtain ⟨M, c⟩ := NC
        have hrd2 := hrd.2 hend kd M c ht
        cases c with
        | succ c =>
          obtain ⟨ty, pv, hv⟩ := errV_iface n g m l (c + 1) (by omega)
          have HRR := Lib.hid (HRr.out.trans (hrd2.1 (by omega)))
          have HX := Lib.hid (next_bad G ba bt k n g m l s wr HEr.out HC.out hk hs hend kd M c ht ty pv hv)
          have HV := Lib.hid hv
          clear hrd hrd2 hend hq hf hk ht hv
          go_wp2_with fail
          refine (HX.out).mono ?_
          rintro e w2 ⟨rfl, hgo⟩
          have GO := Lib.hid hgo
          clear hgo
          go_wp2_with fail
          go_ret2
          exact .inl ⟨_, _, _, _, HRR.out, HV.out, rfl, (grown_thenX GW.out GO.out.1 (fun j hj => by cases hj; exact hba2)).trans (World.grownBy_alloc _ _ _)⟩
        | zero =>
          have hkd := tokL_kind _ _ _ ht
          have hM := tokL_len _ _ _ _ ht
          have tk0 : ((kd : Int) == 0) = false := beq_eq_false_iff_ne.2 (by omega)
          have HX := Lib.hid (next_tok G ba bt k n g m l s wr HEr.out HC.out hk hs hend kd M ht)
          by_cases h250 : N = 250
          · have HRR := Lib.hid (HRr.out.trans (hrd2.2.1 rfl (by rw [← HN.out]; exact h250)))
            have tN : ((N : Int) == 250) = true := beq_iff_eq.2 (by omega)
            clear hrd hrd2 hend hq hf hk ht hM hkd h250
            generalize nxt s k = q at *
            go_wp2_with fail
            refine (HX.out).mono ?_
            rintro e w2 ⟨rfl, hgo⟩
            have GO := Lib.hid hgo
            have cv := (((HEr.out.keepR hgo.1 HC.out.ga).keep (World.grownBy_alloc w2 (.cells #[.int .i64 kd, .string (s.extract q (q + M)), .int .i64 q] 174) none))).sm.var
            clear hgo
            go_wp2_with fail
            go_quiet (fail)
            go_wp2_with fail
            go_ret2
            exact .inl ⟨_, _, _, _, HRR.out, rfl, rfl, grown_drewX ((grown_thenX GW.out GO.out.1 (fun j hj => by cases hj; exact hba2)).trans (World.grownBy_alloc _ _ _)) _⟩
          · have HRR := Lib.hid (HRr.out.trans (hrd2.2.2 rfl (by rw [← HN.out]; exact h250)))
            have tN : ((N : Int) == 250) = false := beq_eq_false_iff_ne.2 (by omega)
            have hM1 := hM.2.1 rfl
            have hM2 := hM.1
            rw [List.length_drop, Array.length_toList] at hM2
            have hsz : s.data.size = s.size := rfl
            have hN2 : N + 1 ≤ 250 := by omega
            have hp1 : nxt s k + M ≤ s.size := by omega
            have hp2 : k < nxt s k + M := by omega
            have hf2 : s.size - (nxt s k + M) < f := by omega
            clear hrd hrd2 hend hq hf ht hM hkd h250 hM2 hsz
            generalize nxt s k = q at *
            go_wp2_with fail
            refine (HX.out).mono ?_
            rintro e w2 ⟨rfl, hgo⟩
            have O2 := Lib.hid (HO.out.kept hgo.1 (.inr hne))
            have GO := Lib.hid hgo
            have hs2 : w1.heap.size ≤ w2.heap.size := Nat.le_trans HG.out.size hgo.1.size
            clear hgo
            go_wp2_with (at_builtin; refine wpList_append_own _ rfl (.tmp 42) (.tmp 44) 94 rfl w1.heap.size 174 i0 (.agg #[.int .i64 0, .string ⟨#[]⟩, .int .i64 0]) 3 32 Tryz.underlying94 hi hz0 hz1 hz2 rfl (by decide) _ _ _ rfl ((O2.out.alloc _).alloc _) ⟨w2.heap.size + 1, 0, none⟩ 1 1 [.int .i64 kd, .string (s.extract q (q + M)), .int .i64 q] rfl rfl ?b1 ?b2 ?b3 ?b4 ?b5 ?_)
            case b1 =>
              intro j u h
              have := three_new (w2.alloc (.cells #[.int .i64 kd, .string (s.extract q (q + M)), .int .i64 q] 174)) _ _ _ 174 j u h
              rw [World.size_alloc] at this
              exact this
            case b2 => intro u hu; simp at hu; rcases hu with rfl | rfl | rfl <;> rfl
            case b3 => unfold maxLen; omega
            case b4 => omega
            case b5 => simp; omega
            intro v' w3 hown' hgrow _
            have O3 := Lib.hid hown'
            have hbt : bt < w1.heap.size := World.block_lt_of_cell? w1 _ C1.out.t
            have C3 := Lib.hid (((GO.out.2.keep (World.grownBy_alloc _ _ _)).keep (World.grownBy_alloc _ _ _)).keepR hgrow (fun j hj => by have := (hro j hj).1; omega))
            have G3 := Lib.hid (grown_thenX (HG.out.trans (GO.out.1.trans (grown_noneX ((World.grownBy_alloc _ _ _).trans (World.grownBy_alloc _ _ _)) _))) hgrow (fun j hj => (hro j hj).1))
            clear hown' hgrow
            go_wp2_with fail
            go_roundw
            case rel => exact ⟨q + M, f, acc ++ [⟨kd, s.extract q (q + M), q⟩], N + 1, hp1, hf2, hN2, Lib.hid (by rw [List.length_append, ← HN.out]; rfl), HRR, Lib.hid (by rw [tk_snoc]; exact O3.out), C3, G3⟩
            case measure => rw [C3.out.n, HC.out.n]; omega
end Go.Proofs.YtjaclmoobfeikaaGreatDoor
namespace Go.Proofs.YtjaclmoobfeikaaGreatDoor
open Go.RowKit

/-- A predicate with the places of its lists. -/
inductive Pm where
  | mk (kind : Nat) (col : ByteArray) (rel : Nat) (val : Vl) (oth : ByteArray) (la : Ptr) (lc : Nat) (list : List Vl) (ka : Ptr) (kc : Nat) (kids : List Pm) (pos : Nat)
mutual
def Pm.e : Pm → Prd
  | .mk k c r v o _ _ l _ _ ks p => .mk k c r v o l (Pm.es ks) p
def Pm.es : List Pm → List Prd
  | [] => []
  | x :: r => x.e :: Pm.es r
end
theorem Pm.es_map (l : List Pm) : Pm.es l = l.map Pm.e := by
  induction l with
  | nil => rfl
  | cons x r ih => simp [Pm.es, ih]
def Pm.none : Pm := .mk 0 ⟨#[]⟩ 0 ⟨0, 0, ⟨#[]⟩⟩ ⟨#[]⟩ Option.none 0 [] Option.none 0 [] 0
instance : Inhabited Pm := ⟨Pm.none⟩
/-- Its ten cells. -/
def Pm.c : Pm → List Value
  | .mk k c r v o la lc l ka kc ks p => [.int .i64 k, .string c, .int .i64 r, .int .i64 v.k, .int .i64 v.n, .string v.s, .string o, .slice la l.length lc, .slice ka ks.length kc, .int .i64 p]
def Pm.v (x : Pm) : Value := .agg x.c.toArray
def Pm.kids : Pm → List Pm | .mk _ _ _ _ _ _ _ _ _ _ ks _ => ks
theorem Pm.c_len : ∀ x : Pm, x.c.length = 10 | .mk .. => rfl
theorem Pm.c_one : ∀ x : Pm, ∀ u ∈ x.c, u.oneCell' = true
  | .mk .., u, h => by
    simp only [Pm.c, List.mem_cons, List.not_mem_nil, or_false] at h
    rcases h with rfl | rfl | rfl | rfl | rfl | rfl | rfl | rfl | rfl | rfl <;> rfl
theorem pm_len (l : List Pm) : (l.flatMap Pm.c).length = l.length * 10 := by
  induction l with
  | nil => rfl
  | cons x l ih => rw [List.flatMap_cons, List.length_append, ih, Pm.c_len]; simp; omega
theorem pm_at (l : List Pm) : ∀ i, i < l.length → ∀ j u, (l.getD i default).c[j]? = some u → (l.flatMap Pm.c)[i * 10 + j]? = some u := by
  induction l with
  | nil => intro i hi; simp at hi
  | cons x l ih =>
    intro i hi j u hj
    rw [List.flatMap_cons]
    cases i with
    | zero =>
      have hlt : j < x.c.length := (List.getElem?_eq_some_iff.1 hj).1
      rw [List.getElem?_append_left (by omega)]
      rw [Nat.zero_mul, Nat.zero_add]
      exact hj
    | succ i =>
      rw [List.getElem?_append_right (by rw [Pm.c_len]; omega), Pm.c_len, show (i + 1) * 10 + j - 10 = i * 10 + j by omega]
      exact ih i (by simpa using hi) j u hj
theorem pm_one (l : List Pm) : ∀ u ∈ l.flatMap Pm.c, u.oneCell' = true := by
  intro u hu
  rw [List.mem_flatMap] at hu
  obtain ⟨x, _, hx⟩ := hu
  exact Pm.c_one x u hx
/-- Cells that lie in a block of S. -/
def CellsS (S : Nat → Prop) (w : World) (a : Ptr) (xs : List Value) : Prop := xs = [] ∨ ∃ b off, a = some ⟨b, off, Option.none⟩ ∧ S b ∧ b < w.heap.size ∧ ∀ j u, xs[j]? = some u → w.cell? ⟨b, off + j, Option.none⟩ = some u
theorem CellsS.keep {S : Nat → Prop} {w w' : World} {a : Ptr} {xs : List Value} (h : CellsS S w a xs) (hk : Stays S w w') : CellsS S w' a xs :=
  h.imp id fun ⟨b, off, e, hs, hlt, hc⟩ => ⟨b, off, e, hs, Nat.lt_of_lt_of_le hlt hk.1, fun j u hj => (World.cell?_of_block (a := ⟨b, _, Option.none⟩) (hk.2 b hs hlt)).trans (hc j u hj)⟩
theorem CellsS.mono {S S' : Nat → Prop} {w : World} {a : Ptr} {xs : List Value} (h : CellsS S w a xs) (hs : ∀ b, b < w.heap.size → S b → S' b) : CellsS S' w a xs :=
  h.imp id fun ⟨b, off, e, h1, h2, hc⟩ => ⟨b, off, e, hs b h2 h1, h2, hc⟩
mutual
/-- All that it leads to lies in S. -/
def PmS (S : Nat → Prop) (w : World) : Pm → Prop
  | .mk _ _ _ _ _ la lc l ka kc ks _ => RwS S w la l ∧ l.length ≤ lc ∧ CellsS S w ka (ks.flatMap Pm.c) ∧ ks.length ≤ kc ∧ PmSs S w ks
def PmSs (S : Nat → Prop) (w : World) : List Pm → Prop
  | [] => True
  | x :: r => PmS S w x ∧ PmSs S w r
end
theorem PmSs_iff {S : Nat → Prop} {w : World} (l : List Pm) : PmSs S w l ↔ ∀ x ∈ l, PmS S w x := by
  induction l with
  | nil => simp [PmSs]
  | cons x r ih => simp [PmSs, ih]
mutual
theorem PmS.keep {S : Nat → Prop} {w w' : World} (hk : Stays S w w') : ∀ {x : Pm}, PmS S w x → PmS S w' x
  | .mk _ _ _ _ _ _ _ _ _ _ _ _, ⟨a, b, c, d, e⟩ => ⟨a.keep hk, b, c.keep hk, d, PmSs.keep hk e⟩
theorem PmSs.keep {S : Nat → Prop} {w w' : World} (hk : Stays S w w') : ∀ {x : List Pm}, PmSs S w x → PmSs S w' x
  | [], _ => trivial
  | _ :: _, ⟨a, b⟩ => ⟨PmS.keep hk a, PmSs.keep hk b⟩
end
mutual
theorem PmS.mono {S S' : Nat → Prop} {w : World} (hs : ∀ b, b < w.heap.size → S b → S' b) : ∀ {x : Pm}, PmS S w x → PmS S' w x
  | .mk _ _ _ _ _ _ _ _ _ _ _ _, ⟨a, b, c, d, e⟩ => ⟨a.mono hs, b, c.mono hs, d, PmSs.mono hs e⟩
theorem PmSs.mono {S S' : Nat → Prop} {w : World} (hs : ∀ b, b < w.heap.size → S b → S' b) : ∀ {x : List Pm}, PmSs S w x → PmSs S' w x
  | [], _ => trivial
  | _ :: _, ⟨a, b⟩ => ⟨PmS.mono hs a, PmSs.mono hs b⟩
end
theorem RwS.nil (S : Nat → Prop) (w : World) (a : Ptr) : RwS S w a [] := ⟨by simp, by simp, .inl rfl⟩
/-- One without lists. -/
theorem PmS.leaf (S : Nat → Prop) (w : World) (k : Nat) (c : ByteArray) (r : Nat) (v : Vl) (o : ByteArray) (la : Ptr) (lc : Nat) (ka : Ptr) (kc p : Nat) : PmS S w (.mk k c r v o la lc [] ka kc [] p) :=
  ⟨RwS.nil _ _ _, Nat.zero_le _, .inl rfl, Nat.zero_le _, trivial⟩
end Go.Proofs.YtjaclmoobfeikaaGreatDoor
namespace Go.Proofs.YtjaclmoobfeikaaGreatDoor
open Go.RowKit

theorem litC_codes (l : List UInt8) : litC l = 0 ∨ litC l = 1 ∨ litC l = 10 := by
  rcases litC_cases l with h | h | h <;> omega
theorem tokL_codes (l : List UInt8) (k n c : Nat) (h : tokL l = (k, n, c)) : c = 0 ∨ c = 1 ∨ c = 10 := by
  match l, h with
  | [], h => simp [tokL] at h; omega
  | a :: r, h =>
    simp only [tokL] at h
    repeat' split at h
    all_goals
      simp only [Prod.mk.injEq] at h
      obtain ⟨_, _, rfl⟩ := h
      first | exact litC_codes _ | simp
theorem lexF_codes (s : ByteArray) : ∀ (f k : Nat) (acc : List Tk) (p c : Nat), lexF s f k acc = .error (p, c) → c = 1 ∨ c = 3 ∨ c = 10 ∨ c = 13
  | 0, _, _, _, _, h => by simp [lexF] at h
  | f + 1, k, acc, p, c, h => by
    have hr := lexF_round s f k acc
    by_cases he : nxt s k = s.size
    · rw [hr.1 he] at h; cases h
    · cases ht : tokL (s.data.toList.drop (nxt s k)) with | mk kd NC =>
      obtain ⟨N, d⟩ := NC
      have h2 := hr.2 he kd N d ht
      by_cases h0 : d = 0
      · by_cases hl : acc.length = 250
        · rw [h2.2.1 h0 hl] at h; cases h; simp
        · rw [h2.2.2 h0 hl] at h; exact lexF_codes s f _ _ p c h
      · rw [h2.1 h0] at h
        cases h
        rcases tokL_codes _ _ _ _ ht with h | h | h <;> omega
theorem lexL_codes (s : ByteArray) (p c : Nat) (h : lexL s = .error (p, c)) : c = 1 ∨ c = 3 ∨ c = 10 ∨ c = 13 := by
  unfold lexL at h
  split at h
  · cases h; simp
  · exact lexF_codes s _ _ _ p c h
/-- What Lex answers. -/
def LexIs (r : Except (Nat × Nat) (List Tk)) (w : World) (e : Ending) (w' : World) : Prop :=
  (∃ p c, r = .error (p, c) ∧ e = .returned (.tuple #[.slice none 0 0, .int .i64 (p : Nat), .int .i64 (c : Nat)]) ∧ w.grownBy w' none)
  ∨ (∃ t v, r = .ok t ∧ e = .returned (.tuple #[v, .int .i64 0, .int .i64 0]) ∧ w'.ownsRow w.heap.size 174 3 v t.length (t.flatMap Tk.c) ∧ w.grownBy w' none)
theorem HitF.grownX {w w' : World} {t : Nat} {x : Int} {ty : TypeId} {p : Value} (h : HitF w t x ty p w') : w.grownBy w' (some t) := by
  obtain ⟨w4, hg, rfl⟩ := h
  exact grown_setX (grown_setX (grown_noneX hg _) _ _) _ _
theorem HitF.cellsX {w w' : World} {t : Nat} {x : Int} {ty : TypeId} {p : Value} (h : HitF w t x ty p w') {o0 o1 : Value} (h0 : w.cell? ⟨t, 0, none⟩ = some o0) (h1 : w.cell? ⟨t, 1, none⟩ = some o1) : w'.cell? ⟨t, 0, none⟩ = some (.int .i64 x) ∧ w'.cell? ⟨t, 1, none⟩ = some (.iface ty p) := by
  obtain ⟨w4, hg, rfl⟩ := h
  have a0 := hg.cell h0 (by simp)
  have a1 := hg.cell h1 (by simp)
  have b0 : (w4.setCell ⟨t, 0, none⟩ (.int .i64 x)).cell? ⟨t, 0, none⟩ = some (.int .i64 x) := World.cell?_setCell_same w4 _ _ a0
  have b1 : (w4.setCell ⟨t, 0, none⟩ (.int .i64 x)).cell? ⟨t, 1, none⟩ = some o1 := (World.cell?_setCell_other w4 _ _ _ (by simp)).trans a1
  exact ⟨(World.cell?_setCell_other _ _ _ _ (by simp)).trans b0, World.cell?_setCell_same _ _ _ b1⟩
set_option maxHeartbeats 3200000 in
theorem Lex_any (G : Nat) (n g m l : Addr) (s : ByteArray) (w : World) (hE : LxEnv G n g m l w) :
    Calls Tryz.prog 33 #[.string s] w (LexIs (lexL s) w) := by
  have HA := Lib.hid (all_any G n g m l s w hE)
  have HE := Lib.hid hE
  have HCd := Lib.hid (lexL_codes s)
  clear hE
  generalize lexL s = r at *
  go_enter Tryz.func33, Tryz.ntmps33
  go_wp2_with fail
  refine (HA.out).mono ?_
  rintro e w1 (⟨p, c, ty, pv, hr, hv, rfl, hg⟩ | ⟨t, v, hr, rfl, ho, hg⟩)
  · have K1 := Lib.hid (hg.trans (World.grownBy_alloc w1 (.cells #[.int .i64 0, .nilIface] 125) none))
    have hz := hg.size
    obtain ⟨b0, b1⟩ := box2X w1 (.int .i64 0) .nilIface 125
    have E1 := HE.out.keep K1.out
    have hAs := as_hitF (p : Int) ty pv w1.heap.size G _ _ (w1.alloc (.cells #[.int .i64 0, .nilIface] 125)) E1.et b0 b1 (by simp) (by simp)
    have HAs := Lib.hid hAs
    have hc := HCd.out p c hr
    have HC := Lib.hid hc
    have HV := Lib.hid hv
    have HR := Lib.hid hr
    clear hg hAs E1 hr hv hc b0 b1
    go_wp2_with fail
    refine (HAs.out).mono ?_
    rintro e w2 ⟨rfl, hh⟩
    have K2 := Lib.hid (grown_thenX K1.out hh.grownX (fun j hj => by cases hj; exact hz))
    obtain ⟨c0, c1⟩ := hh.cellsX (box2X w1 (.int .i64 0) .nilIface 125).1 (box2X w1 (.int .i64 0) .nilIface 125).2
    have C2 := Lib.hid (And.intro c0 c1)
    have HNo : Hid (∀ W, w.grownBy W none → Calls Tryz.prog 50 #[.agg #[.int .i64 p, .iface ty pv]] W fun e w' => e = .returned (.int .i64 (c : Nat)) ∧ W.grownBy w' none) := Lib.hid fun W hW => by
      have := faultNo_any G n g m l p c HC.out W (HE.out.keep hW)
      rw [HV.out] at this
      exact this
    clear hh
    go_wp2_with fail
    go_region_with (go_at_call 50; (with_reducible refine (HNo.out _ (by first | exact grown_drew1X K2.out | exact K2.out)).mono ?_); rintro e w4 ⟨rfl, hg4⟩; have K4 := Lib.hid ((grown_drew1X K2.out).trans hg4); have x0 := hg4.cell C2.out.1 (by simp); have x1 := hg4.cell C2.out.2 (by simp); clear hg4)
    all_goals
      go_wp2_with fail
      go_ret3
      exact .inl ⟨_, _, HR.out, rfl, K4.out⟩
  · have K1 := Lib.hid (hg.trans (World.grownBy_alloc w1 (.cells #[.int .i64 0, .nilIface] 125) none))
    have O1 := Lib.hid (ho.alloc (.cells #[.int .i64 0, .nilIface] 125))
    have HR := Lib.hid hr
    clear hg ho hr
    have HN := Lib.hid as_nil
    go_wp2_with fail
    refine (HN.out _ _).mono ?_
    rintro e w2 ⟨rfl, rfl⟩
    go_wp2_with fail
    go_ret3
    exact .inr ⟨_, _, HR.out, rfl, O1.out, K1.out⟩
end Go.Proofs.YtjaclmoobfeikaaGreatDoor
