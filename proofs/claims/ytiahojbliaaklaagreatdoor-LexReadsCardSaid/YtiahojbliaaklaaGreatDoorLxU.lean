/- The contract of lex's all. -/
import Derived.Test.YtiahojbliaaklaaGreatDoorLxT
namespace Go.Proofs.YtiahojbliaaklaaGreatDoor
open Go.RowKit

def Tk.c (t : Tk) : List Value := [.int .i64 t.kind, .string t.text, .int .i64 t.pos]
theorem tk_info : (Tryz.prog.info? 31).map (fun i => (i.zero, i.size, i.bytes)) = some (some (.agg #[.int .i64 0, .string ⟨#[]⟩, .int .i64 0]), 3, 32) := by kernel_rfl
theorem info_partsX {o : Option TypeInfo} {z : Value} {s b : Nat} (h : o.map (fun i => (i.zero, i.size, i.bytes)) = some (some z, s, b)) : ∃ i, o = some i ∧ i.zero = some z ∧ i.size = s ∧ i.bytes = b := by
  cases o with
  | none => simp at h
  | some i => simp at h; exact ⟨i, rfl, h.1, h.2.1, h.2.2⟩
theorem errV_iface (n g m l : Addr) (c : Nat) (hc : c ≠ 0) : ∃ ty pv, errV n g m l c = .iface ty pv := by
  unfold errV
  split <;> first | (exact absurd rfl hc) | exact ⟨_, _, rfl⟩
theorem tokL_kind (l : List UInt8) (kd N : Nat) (h : tokL l = (kd, N, 0)) : kd ≠ 0 := by
  match l, h with
  | [], h => simp [tokL] at h
  | a :: r, h =>
    simp only [tokL] at h
    repeat' split at h
    all_goals (simp only [Prod.mk.injEq] at h; omega)
theorem tk_len (l : List Tk) : (l.flatMap Tk.c).length = l.length * 3 := by
  induction l with
  | nil => rfl
  | cons t r ih => rw [List.flatMap_cons, List.length_append, ih, List.length_cons]; simp [Tk.c]; omega
theorem tk_snoc (l : List Tk) (t : Tk) : (l ++ [t]).flatMap Tk.c = l.flatMap Tk.c ++ t.c := by simp
/-- What all answers. -/
def AllIs (n g m l : Addr) (r : Except (Nat × Nat) (List Tk)) (w : World) (e : Ending) (w' : World) : Prop :=
  (∃ p c ty pv, r = .error (p, c) ∧ errV n g m l c = .iface ty pv ∧ e = .returned (.tuple #[.slice none 0 0, .iface 38 (.agg #[.int .i64 (p : Nat), .iface ty pv])]) ∧ w.grownBy w' none)
  ∨ (∃ t v, r = .ok t ∧ e = .returned (.tuple #[v, .nilIface]) ∧ w'.ownsRow w.heap.size 31 3 v t.length (t.flatMap Tk.c) ∧ w.grownBy w' none)
/-- One round of the reading. -/
theorem lexF_round (s : ByteArray) (f k : Nat) (acc : List Tk) :
    (nxt s k = s.size → lexF s (f + 1) k acc = .ok (acc ++ [⟨0, ⟨#[]⟩, s.size⟩])) ∧
    (nxt s k ≠ s.size → ∀ kd N c, tokL (s.data.toList.drop (nxt s k)) = (kd, N, c) →
      (c ≠ 0 → lexF s (f + 1) k acc = .error (nxt s k, c)) ∧
      (c = 0 → acc.length = 250 → lexF s (f + 1) k acc = .error (nxt s k, 3)) ∧
      (c = 0 → acc.length ≠ 250 → lexF s (f + 1) k acc = lexF s f (nxt s k + N) (acc ++ [⟨kd, s.extract (nxt s k) (nxt s k + N), nxt s k⟩]))) := by
  unfold nxt
  constructor
  · intro h
    rw [lexF, if_pos h]
  · intro h kd N c ht'
    refine ⟨fun hc => ?_, fun hc hl => ?_, fun hc hl => ?_⟩
    · obtain ⟨d, rfl⟩ : ∃ d, c = d + 1 := ⟨c - 1, by omega⟩
      rw [lexF, if_neg h, ht']
    · subst hc
      rw [lexF, if_neg h, ht']; simp only [hl, if_true]
    · subst hc
      rw [lexF, if_neg h, ht']; simp only [hl, if_false]
theorem grown_thenX {a b c : World} {row row' : Option Nat} (h : a.grownBy b row) (k : b.grownBy c row') (hr : ∀ j, row' = some j → a.heap.size ≤ j) : a.grownBy c row :=
  ⟨k.os.trans h.os, k.tape.trans h.tape, k.output.trans h.output, Nat.le_trans h.size k.size, fun i hi hne => (k.block i (Nat.lt_of_lt_of_le hi h.size) (fun e => by have := hr i e.symm; omega)).trans (h.block i hi hne)⟩
theorem own_monoX {w : World} {B B' : Nat} {e : TypeId} {k : Nat} {v : Value} {n : Nat} {xs : List Value} (h : w.ownsRow B e k v n xs) (hB : B' ≤ B) : w.ownsRow B' e k v n xs :=
  ⟨h.1, h.2.imp id fun ⟨g, cap, cur, hv, hb, r⟩ => ⟨g, cap, cur, hv, Nat.le_trans hB hb, r⟩⟩
theorem slice_of_ownX {w : World} {B : Nat} {e : TypeId} {k : Nat} {v : Value} {n : Nat} {xs : List Value} (h : w.ownsRow B e k v n xs) : ∃ ao cap, v = .slice ao n cap := by
  rcases h.2 with ⟨hv, h0⟩ | ⟨g, cap, cur, hv, _⟩
  · exact ⟨none, 0, by rw [hv, h0]⟩
  · exact ⟨_, _, hv⟩
theorem own_tk {w : World} {B B' : Nat} {v : Value} {N : Nat} {acc : List Tk} {x : Tk} {xs : List Value} (h : w.ownsRow B 31 3 v (N + 1) (acc.flatMap Tk.c ++ xs)) (hN : N = acc.length) (hx : x.c = xs) (hB : B' ≤ B) :
    w.ownsRow B' 31 3 v (acc ++ [x]).length ((acc ++ [x]).flatMap Tk.c) := by
  rw [tk_snoc, hx, List.length_append, ← hN]
  exact own_monoX h hB
theorem Cur.keepR {G ba bt : Nat} {s : ByteArray} {k : Nat} {w w' : World} {row : Option Nat} (h : Cur G ba bt s k w) (hg : w.grownBy w' row) (hr : ∀ j, row = some j → j ≠ ba ∧ j ≠ bt) : Cur G ba bt s k w' :=
  ⟨hg.cell h.a (fun e => (hr ba e.symm).1 rfl), (hg.frozen_far ⟨ba, 0, none⟩ (World.block_lt_of_cell? w _ h.a) (fun e => (hr ba e.symm).1 rfl)).trans h.fa, hg.cell h.t (fun e => (hr bt e.symm).2 rfl), h.ne, h.ga⟩
/-- The closure's place, out of memory. -/
def curN (ba : Nat) (w : World) : Nat := match w.cell? ⟨ba, 0, none⟩ with | some (.int _ x) => x.toNat | _ => 0
theorem Cur.n {G ba bt : Nat} {s : ByteArray} {k : Nat} {w : World} (h : Cur G ba bt s k w) : curN ba w = k := by unfold curN; rw [h.a]; simp
theorem three_new (W : World) (v0 v1 v2 : Value) (T : TypeId) (j : Nat) (u : Value) (h : [v0, v1, v2][j]? = some u) : (W.alloc (.cells #[v0, v1, v2] T)).cell? ((⟨W.heap.size, 0, none⟩ : Addr).add j) = some u := by
  have e := heap_alloc_new W (.cells #[v0, v1, v2] T)
  match j, h with
  | 0, h => exact (cell_of_row _ _ 0 _ _ _ e).trans h
  | 1, h => exact (cell_of_row _ _ 1 _ _ _ e).trans h
  | 2, h => exact (cell_of_row _ _ 2 _ _ _ e).trans h
  | j + 3, h => simp at h
set_option maxRecDepth 100000 in
set_option maxHeartbeats 6400000 in
theorem all_any (G : Nat) (n g m l : Addr) (s : ByteArray) (w : World) (hE : LxEnv G n g m l w) :
    Calls Tryz.prog 8 #[.string s] w (AllIs n g m l (lexL s) w) := by
  by_cases hbig : 1500 < s.size
  · have hL : lexL s = .error (1500, 13) := by unfold lexL; rw [if_pos hbig]
    rw [hL]
    have cv := hE.sl.var
    have hb : (1500 : Int) < s.size := by omega
    clear hL hbig hE
    go_enter Tryz.func8, Tryz.ntmps8
    go_wp2_with fail
    go_quiet (fail)
    go_wp2_with fail
    go_ret2
    exact .inl ⟨1500, 13, _, _, rfl, rfl, rfl, grown_drewX (grown_reflX _ _) _⟩
  · have hL : lexL s = lexF s (s.size + 1) 0 [] := by unfold lexL; rw [if_neg hbig]
    rw [hL]
    have hs : s.size ≤ 1510 := by omega
    have hb : (s.size : Int) ≤ 1500 := by omega
    have HT := Lib.hid (tokens_any G s w hE.le)
    have HE := Lib.hid hE
    obtain ⟨r, hr⟩ : ∃ r, r = lexF s (s.size + 1) 0 [] := ⟨_, rfl⟩
    rw [← hr]
    have HR := Lib.hid hr
    clear hL hbig hE hr
    obtain ⟨i0, hi, hz0, hz1, hz2⟩ := info_partsX tk_info
    go_enter Tryz.func8, Tryz.ntmps8
    go_wp2_with fail
    refine (HT.out).mono ?_
    rintro e w1 ⟨⟨ba, bt, rfl, hC, hba1, hba2⟩, hg1⟩
    have C1 := Lib.hid hC
    have G1 := Lib.hid hg1
    clear hC hg1
    go_wp2_with fail
    go_loopw [4] (fun v wr => ∃ (k f : Nat) (acc : List Tk) (N : Nat), k ≤ s.size ∧ s.size - k < f ∧ N ≤ 250 ∧ Hid (N = acc.length) ∧ Hid (r = lexF s f k acc) ∧ Hid (wr.ownsRow w1.heap.size 31 3 v N (acc.flatMap Tk.c)) ∧ Hid (Cur G ba bt s k wr) ∧ Hid (w1.grownBy wr (some ba)) ) (fun _ wr => s.size - curN ba wr)
    case atStart => exact ⟨0, s.size + 1, [], 0, by omega, by omega, by omega, Lib.hid rfl, Lib.hid HR.out, Lib.hid ⟨rfl, .inl ⟨rfl, rfl⟩⟩, C1, Lib.hid (grown_reflX _ _)⟩
    case round =>
      obtain ⟨k, f, acc, N, hk, hf, hN, HN, HRr, HO, HC, HG⟩ := hrel
      obtain ⟨ao, cp, rfl⟩ := slice_of_ownX HO.out
      obtain ⟨f, rfl⟩ : ∃ f', f = f' + 1 := ⟨f - 1, by omega⟩
      have hq := nxt_le s k hk
      have HEr := Lib.hid ((HE.out.keep G1.out).keepR HG.out HC.out.ga)
      have hrd := lexF_round s f k acc
      have hro := HO.out.lt
      have hne : (Value.slice ao N cp).ownBlock ≠ some ba := fun e => by have := (hro ba e).1; omega
      have GW := Lib.hid (grown_thenX G1.out HG.out (fun j hj => by cases hj; exact hba2))
      by_cases hend : nxt s k = s.size
      · have hrr := HRr.out.trans (hrd.1 hend)
        have HRR := Lib.hid hrr
        have HX := Lib.hid (next_end G ba bt k s wr HC.out hk hs hend)
        clear hrd hrr hend hq hf hk
        go_wp2_with fail
        refine (HX.out).mono ?_
        rintro e w2 ⟨rfl, hgo⟩
        have O2 := Lib.hid (HO.out.kept hgo.1 (.inr hne))
        have GO := Lib.hid hgo
        clear hgo
        have hs2 : w1.heap.size ≤ w2.heap.size := Nat.le_trans HG.out.size GO.out.1.size
        go_wp2_with (at_builtin; refine wpList_append_own _ rfl (.tmp 29) (.tmp 31) 23 rfl w1.heap.size 31 i0 (.agg #[.int .i64 0, .string ⟨#[]⟩, .int .i64 0]) 3 32 Tryz.underlying23 hi hz0 hz1 hz2 rfl (by decide) _ _ _ rfl ((O2.out.alloc _).alloc _) ⟨w2.heap.size + 1, 0, none⟩ 1 1 [.int .i64 0, .string ⟨#[]⟩, .int .i64 (s.size : Nat)] rfl rfl ?a1 ?a2 ?a3 ?a4 ?a5 ?_)
        case a1 =>
          intro j u h
          have := three_new (w2.alloc (.cells #[.int .i64 0, .string ⟨#[]⟩, .int .i64 (s.size : Nat)] 31)) _ _ _ 31 j u h
          rw [World.size_alloc] at this
          exact this
        case a2 => intro u hu; simp at hu; rcases hu with rfl | rfl | rfl <;> rfl
        case a3 => unfold maxLen; omega
        case a4 => omega
        case a5 => simp; omega
        intro v' w3 hown' hgrow _
        have O3 := Lib.hid hown'
        have G3 := Lib.hid (grown_thenX (grown_thenX GW.out GO.out.1 (fun j hj => by cases hj; exact hba2)) (((World.grownBy_alloc _ _ _).trans (World.grownBy_alloc _ _ _)).trans hgrow) (fun j hj => by have := (hro j hj).1; have := G1.out.size; omega))
        clear hown' hgrow
        go_wp2_with fail
        go_ret2
        exact .inr ⟨_, _, HRR.out, rfl, own_tk O3.out HN.out rfl G1.out.size, G3.out⟩
      · cases ht : tokL (s.data.toList.drop (nxt s k)) with | mk kd NC =>
        obtain ⟨M, c⟩ := NC
        have hrd2 := hrd.2 hend kd M c ht
        cases c with
        | succ c =>
          obtain ⟨ty, pv, hv⟩ := errV_iface n g m l (c + 1) (by omega)
          have HRR := Lib.hid (HRr.out.trans (hrd2.1 (by omega)))
          have HX := Lib.hid (next_bad G ba bt k n g m l s wr HEr.out HC.out hk hs hend kd M c ht ty pv hv)
          have HV := Lib.hid hv
          clear hrd hrd2 hend hq hf hk ht hv
          go_wp2_with fail
          refine (HX.out).mono ?_
          rintro e w2 ⟨rfl, hgo⟩
          have GO := Lib.hid hgo
          clear hgo
          go_wp2_with fail
          go_ret2
          exact .inl ⟨_, _, _, _, HRR.out, HV.out, rfl, (grown_thenX GW.out GO.out.1 (fun j hj => by cases hj; exact hba2)).trans (World.grownBy_alloc _ _ _)⟩
        | zero =>
          have hkd := tokL_kind _ _ _ ht
          have hM := tokL_len _ _ _ _ ht
          have tk0 : ((kd : Int) == 0) = false := beq_eq_false_iff_ne.2 (by omega)
          have HX := Lib.hid (next_tok G ba bt k n g m l s wr HEr.out HC.out hk hs hend kd M ht)
          by_cases h250 : N = 250
          · have HRR := Lib.hid (HRr.out.trans (hrd2.2.1 rfl (by rw [← HN.out]; exact h250)))
            have tN : ((N : Int) == 250) = true := beq_iff_eq.2 (by omega)
            clear hrd hrd2 hend hq hf hk ht hM hkd h250
            generalize nxt s k = q at *
            go_wp2_with fail
            refine (HX.out).mono ?_
            rintro e w2 ⟨rfl, hgo⟩
            have GO := Lib.hid hgo
            have cv := (((HEr.out.keepR hgo.1 HC.out.ga).keep (World.grownBy_alloc w2 (.cells #[.int .i64 kd, .string (s.extract q (q + M)), .int .i64 q] 31) none))).sm.var
            clear hgo
            go_wp2_with fail
            go_quiet (fail)
            go_wp2_with fail
            go_ret2
            exact .inl ⟨_, _, _, _, HRR.out, rfl, rfl, grown_drewX ((grown_thenX GW.out GO.out.1 (fun j hj => by cases hj; exact hba2)).trans (World.grownBy_alloc _ _ _)) _⟩
          · have HRR := Lib.hid (HRr.out.trans (hrd2.2.2 rfl (by rw [← HN.out]; exact h250)))
            have tN : ((N : Int) == 250) = false := beq_eq_false_iff_ne.2 (by omega)
            have hM1 := hM.2.1 rfl
            have hM2 := hM.1
            rw [List.length_drop, Array.length_toList] at hM2
            have hsz : s.data.size = s.size := rfl
            have hN2 : N + 1 ≤ 250 := by omega
            have hp1 : nxt s k + M ≤ s.size := by omega
            have hp2 : k < nxt s k + M := by omega
            have hf2 : s.size - (nxt s k + M) < f := by omega
            clear hrd hrd2 hend hq hf ht hM hkd h250 hM2 hsz
            generalize nxt s k = q at *
            go_wp2_with fail
            refine (HX.out).mono ?_
            rintro e w2 ⟨rfl, hgo⟩
            have O2 := Lib.hid (HO.out.kept hgo.1 (.inr hne))
            have GO := Lib.hid hgo
            have hs2 : w1.heap.size ≤ w2.heap.size := Nat.le_trans HG.out.size hgo.1.size
            clear hgo
            go_wp2_with (at_builtin; refine wpList_append_own _ rfl (.tmp 42) (.tmp 44) 23 rfl w1.heap.size 31 i0 (.agg #[.int .i64 0, .string ⟨#[]⟩, .int .i64 0]) 3 32 Tryz.underlying23 hi hz0 hz1 hz2 rfl (by decide) _ _ _ rfl ((O2.out.alloc _).alloc _) ⟨w2.heap.size + 1, 0, none⟩ 1 1 [.int .i64 kd, .string (s.extract q (q + M)), .int .i64 q] rfl rfl ?b1 ?b2 ?b3 ?b4 ?b5 ?_)
            case b1 =>
              intro j u h
              have := three_new (w2.alloc (.cells #[.int .i64 kd, .string (s.extract q (q + M)), .int .i64 q] 31)) _ _ _ 31 j u h
              rw [World.size_alloc] at this
              exact this
            case b2 => intro u hu; simp at hu; rcases hu with rfl | rfl | rfl <;> rfl
            case b3 => unfold maxLen; omega
            case b4 => omega
            case b5 => simp; omega
            intro v' w3 hown' hgrow _
            have O3 := Lib.hid hown'
            have hbt : bt < w1.heap.size := World.block_lt_of_cell? w1 _ C1.out.t
            have C3 := Lib.hid (((GO.out.2.keep (World.grownBy_alloc _ _ _)).keep (World.grownBy_alloc _ _ _)).keepR hgrow (fun j hj => by have := (hro j hj).1; omega))
            have G3 := Lib.hid (grown_thenX (HG.out.trans (GO.out.1.trans (grown_noneX ((World.grownBy_alloc _ _ _).trans (World.grownBy_alloc _ _ _)) _))) hgrow (fun j hj => (hro j hj).1))
            clear hown' hgrow
            go_wp2_with fail
            go_roundw
            case rel => exact ⟨q + M, f, acc ++ [⟨kd, s.extract q (q + M), q⟩], N + 1, hp1, hf2, hN2, Lib.hid (by rw [List.length_append, ← HN.out]; rfl), HRR, Lib.hid (by rw [tk_snoc]; exact O3.out), C3, G3⟩
            case measure => rw [C3.out.n, HC.out.n]; omega
end Go.Proofs.YtiahojbliaaklaaGreatDoor
