/- The law LexLimits, walked. -/
import Derived.Test.YtiahojbliaaklaaDoorLxK
import Derived.Laws.OwnMore
import Derived.Deep.DeepCutAuto
import Derived.Laws.Bits64
import Derived.IntWalk
namespace Go.Proofs.YtiahojbliaaklaaDoor
open Go.RowKit

/-! ### the mathematics -/
theorem runL_rep (f : UInt8 → Bool) (c : UInt8) (hc : f c = true) : ∀ k, runL f (List.replicate k c) = k
  | 0 => rfl
  | k + 1 => by rw [List.replicate_succ, runL, hc]; simp [runL_rep f c hc k]
theorem tok_comma (r : List UInt8) : tokL (44 :: r) = (4, 1, 0) := by
  have hp : ∀ a b : UInt8, a ≠ 44 → Lib.hasPrefix (44 :: r) [a, b] = false := fun a b h => by
    simp [Lib.hasPrefix, List.isPrefixOf, h]
  have h0 := hp 60 62 (by decide)
  have h1 := hp 60 61 (by decide)
  have h2 := hp 62 61 (by decide)
  have hs : signN (44 :: r) = 1 := by
    unfold signN
    rw [h0, h1, h2]
    rfl
  have t1 : ((44 : UInt8).toNat = 39) = False := by decide
  have t2 : ((44 : UInt8).toNat = 45) = False := by decide
  have t3 : digB 44 = false := by decide
  have t4 : partB 44 = false := by decide
  unfold tokL
  simp only [t1, t2, t3, t4, hs, if_false]
  rfl
theorem lex_run (s : ByteArray) (n k : Nat) (hs : s.data.toList = List.replicate n 44 ++ List.replicate k 32) :
    ∀ (f i : Nat) (acc : List Tk), i ≤ n → acc.length = i → i ≤ 250 → n - i < f →
      (n ≤ 250 → ∃ l, lexF s f i acc = .ok l ∧ l.length = n + 1) ∧ (250 < n → lexF s f i acc = .error (250, 3))
  | 0, i, acc, _, _, _, hf => by omega
  | f + 1, i, acc, hi, ha, h250, hf => by
    have hsz : s.size = n + k := by rw [size_list hs]; simp
    have hr := lexF_round s f i acc
    have hd : s.data.toList.drop i = List.replicate (n - i) 44 ++ List.replicate k 32 := by
      rw [hs, List.drop_append, List.drop_replicate, List.length_replicate, show i - n = 0 by omega, List.drop_zero]
    by_cases hin : i < n
    · obtain ⟨d, hd1⟩ : ∃ d, n - i = d + 1 := ⟨n - i - 1, by omega⟩
      have hn : nxt s i = i := by
        unfold nxt
        rw [hd, hd1, List.replicate_succ, List.cons_append, runL]
        simp [show blankB 44 = false from by decide]
      have ht : tokL (s.data.toList.drop (nxt s i)) = (4, 1, 0) := by rw [hn, hd, hd1, List.replicate_succ, List.cons_append]; exact tok_comma _
      have h2 := hr.2 (by rw [hn]; omega) 4 1 0 ht
      by_cases hl : acc.length = 250
      · rw [h2.2.1 rfl hl, hn]
        have e : i = 250 := by omega
        subst e
        exact ⟨fun h => by omega, fun _ => rfl⟩
      · rw [h2.2.2 rfl hl, hn]
        exact lex_run s n k hs f (i + 1) _ (by omega) (by simp; omega) (by omega) (by omega)
    · obtain rfl : i = n := by omega
      have hn : nxt s i = s.size := by
        unfold nxt
        rw [hd, Nat.sub_self, List.replicate_zero, List.nil_append, runL_rep blankB 32 (by decide), hsz]
      rw [hr.1 hn]
      exact ⟨fun _ => ⟨_, rfl, by simp; omega⟩, fun h => by omega⟩
/-- The bytes on the way: those below i are written. -/
def wrL (n q i : Nat) : List UInt8 := (List.range q).map fun j => if j < i then (if j < n then 44 else 32) else 0
theorem wrL_len (n q i : Nat) : (wrL n q i).length = q := by simp [wrL]
theorem wrL_zero (n q : Nat) : wrL n q 0 = List.replicate q 0 := by
  apply List.ext_getElem
  · simp [wrL]
  · intro j h1 h2; simp [wrL]
theorem wrL_set (n q i : Nat) (c : UInt8) (hc : c = if i < n then 44 else 32) : (wrL n q i).set i c = wrL n q (i + 1) := by
  apply List.ext_getElem
  · simp [wrL]
  · intro j h1 h2
    rw [List.getElem_set]
    by_cases e : i = j
    · subst e; simp [wrL, hc]
    · rw [if_neg e]
      have : (j < i) ↔ (j < i + 1) := by omega
      simp [wrL, this]
theorem wrL_end (n k : Nat) : wrL n (n + k) (n + k) = List.replicate n 44 ++ List.replicate k 32 := by
  apply List.ext_getElem
  · simp [wrL]
  · intro j h1 h2
    have hj : j < n + k := by simpa [wrL] using h1
    rw [List.getElem_append]
    by_cases e : j < n
    · simp [wrL, hj, e]
    · simp [wrL, hj, e]
theorem cells_set (l : List UInt8) (i : Nat) (c : UInt8) : (Lib.byteCells l).set i (.int .u8 c.toNat) = Lib.byteCells (l.set i c) := by
  unfold Lib.byteCells
  rw [List.map_set]
theorem reach (x : Int) (M : Nat) (h0 : 0 < M) (h1 : M < 2000) : ∃ N : Nat, N < M ∧ wrap64 ((IntKind.u64.wrap x).tmod M) = (N : Int) := by
  have hw : 0 ≤ IntKind.u64.wrap x := by rw [IntKind.wrap_u64]; omega
  rw [Int.tmod_eq_emod_of_nonneg hw]
  have a := Int.emod_nonneg (IntKind.u64.wrap x) (show (M : Int) ≠ 0 by omega)
  have b := Int.emod_lt_of_pos (IntKind.u64.wrap x) (show (0 : Int) < M by omega)
  generalize IntKind.u64.wrap x % (M : Int) = z at *
  refine ⟨z.toNat, by omega, ?_⟩
  rw [IntWalk.wrap64_in z ⟨by omega, by omega⟩]
  omega
theorem made_zeroX (n : Nat) (hn : n ≤ 1000000) : ∃ C : Array Value, (∀ w : World, (Instr.makeSlice 30 (.int .i64 n) (.int .i64 n)).run Tryd.prog w = .ok (.slice (some ⟨w.heap.size, 0, none⟩) n n) (w.alloc (.cells C 5)))
    ∧ (∀ (B : Nat) (w : World), B ≤ w.heap.size → (w.alloc (.cells C 5)).ownsRow B 5 1 (.slice (some ⟨w.heap.size, 0, none⟩) n n) n (Lib.byteCells (List.replicate n 0))) := by
  obtain ⟨i0, hi, hz0, hz1, hz2⟩ := info_parts byte_info
  refine ⟨madeCells #[.int .u8 0] n, fun w => ?_, fun B w hB => ?_⟩
  · have h := run_makeSlice (P := Tryd.prog) w 30 5 i0 (.int .u8 0) Tryd.underlying30 hi hz0 .i64 .i64 (n : Int) (n : Int) (by omega) (by omega) (by rw [hz1]; omega) (by rw [hz2]; omega) (by omega)
    rw [hz1] at h
    simpa [Value.cells] using h
  · refine ⟨by simp [Lib.byteCells], .inr ⟨w.heap.size, n, _, rfl, hB, heap_alloc_new _ _, by simp, by unfold maxLen; omega, by rw [size_madeCells]; omega, ?_⟩⟩
    rw [toList_madeCells_one]
    simp [Lib.byteCells]
/-- What is left when the bytes are written. -/
theorem limits_lex (N K : Nat) (hN : N < 260) (hK : K < 1510) : let s : ByteArray := ⟨(wrL N (N + K) (N + K)).toArray⟩
    (1500 < N + K → lexL s = .error (1500, 13)) ∧ (N + K ≤ 1500 → 250 < N → lexL s = .error (250, 3)) ∧ (N + K ≤ 1500 → N ≤ 250 → ∃ l, lexL s = .ok l ∧ l.length = N + 1) := by
  intro s
  have hl : s.data.toList = List.replicate N 44 ++ List.replicate K 32 := by simp [s, wrL_end]
  have hsz : s.size = N + K := by rw [size_list hl]; simp
  refine ⟨fun h => ?_, fun h h2 => ?_, fun h h2 => ?_⟩
  · unfold lexL; rw [if_pos (by omega)]
  · unfold lexL; rw [if_neg (by omega)]
    exact (lex_run s N K hl _ 0 [] (by omega) rfl (by omega) (by omega)).2 h2
  · unfold lexL; rw [if_neg (by omega)]
    exact (lex_run s N K hl _ 0 [] (by omega) rfl (by omega) (by omega)).1 h2
set_option maxRecDepth 100000 in
set_option maxHeartbeats 3200000 in
theorem LexLimits_walk (G : Nat) (n g m l : Addr) (x y : Int) (w : World) (hE : LxEnv G n g m l w) :
    Calls Tryd.prog 7 #[.int .i64 x, .int .i64 y] w fun e w' => e = .returned (.bool true) ∧ w.grownBy w' none := by
  have HA := Lib.hid (fun W (hW : w.grownBy W none) => awake10_any G n g m l W (hE.keep hW))
  obtain ⟨N, hN, hx⟩ : ∃ N : Nat, N < 260 ∧ wrap64 ((IntKind.u64.wrap x).tmod (260 : Int)) = (N : Int) := reach x 260 (by omega) (by omega)
  obtain ⟨K, hK, hy⟩ : ∃ N : Nat, N < 1510 ∧ wrap64 ((IntKind.u64.wrap y).tmod (1510 : Int)) = (N : Int) := reach y 1510 (by omega) (by omega)
  have HL := Lib.hid (fun W (hW : w.grownBy W none) => Lex_any G n g m l ⟨(wrL N (N + K) (N + K)).toArray⟩ W (hE.keep hW))
  obtain ⟨l1, l2, l3⟩ := limits_lex N K hN hK
  have L1 := Lib.hid l1
  have L2 := Lib.hid l2
  have L3 := Lib.hid l3
  clear l1 l2 l3 hE
  obtain ⟨q, hq⟩ : ∃ q, q = N + K := ⟨_, rfl⟩
  rw [← hq] at HL L1 L2 L3
  obtain ⟨C, hmk, hown⟩ := made_zeroX q (by omega)
  have HO := Lib.hid hown
  have n0 : (0 : Int) ≤ N := by omega
  have n1 : (N : Int) < 260 := by omega
  have k0 : (0 : Int) ≤ K := by omega
  have k1 : (K : Int) < 1510 := by omega
  have hs : (N : Int) + (K : Int) = (q : Int) := by omega
  have q0 : (0 : Int) ≤ q := by omega
  have q1 : (q : Int) < 1770 := by omega
  have Hq := Lib.hid hq
  clear hown hq
  go_enter Tryd.func7, Tryd.ntmps7
  go_wp2_with fail
  refine (HA.out _ (grown_reflX _ _)).mono ?_
  rintro e w1 ⟨rfl, hg⟩
  have K1 := Lib.hid hg
  have O1 := Lib.hid (HO.out w1.heap.size w1 (Nat.le_refl _))
  have K2 := Lib.hid (hg.trans (World.grownBy_alloc w1 (.cells C 5) none))
  clear hg
  go_upto_region 3 with (fail)
  have HX := Lib.hid hx
  have HY := Lib.hid hy
  clear hx hy
  go_cut [0, 1] (fun a b wx => a = .int .i64 N ∧ b = .int .i64 K ∧ w1 = wx)
  case first =>
    go_wp2_with fail
    go_meet
    exact ⟨by rw [← HX.out], by rw [← HY.out], rfl⟩
  case rest =>
  obtain ⟨rfl, rfl, rfl⟩ := hcut
  go_wp2_with fail
  go_loopw [26] (fun i wr => ∃ k : Nat, i = .int .i64 k ∧ k ≤ q ∧ Hid (wr.ownsRow w1.heap.size 5 1 (.slice (some ⟨w1.heap.size, 0, none⟩) q q) q (Lib.byteCells (wrL N q k))) ∧ Hid (w.grownBy wr none)) (fun i _ => q - (intOf i).toNat)
  case atStart => exact ⟨0, rfl, by omega, by rw [wrL_zero]; exact O1, K2⟩
  case round =>
    obtain ⟨k, rfl, hk, O, KW⟩ := hrel
    have i0 : (0 : Int) ≤ k := by omega
    by_cases hlt : k < q
    · have i1 : (k : Int) < q := by omega
      have cc := O.out.cellAt k (by omega)
      rw [List.getElem?_eq_getElem (by simp [Lib.byteCells, wrL_len]; exact hlt)] at cc
      have ff := O.out.frozenAt k
      obtain ⟨u, hu⟩ : ∃ u, u = (Lib.byteCells (wrL N q k))[k]'(by simp [Lib.byteCells, wrL_len]; exact hlt) := ⟨_, rfl⟩
      rw [← hu] at cc
      clear hu
      by_cases hn : k < N
      · have t1 : (k : Int) < N := by omega
        have S := Lib.hid (O.out.stored k (.int .u8 32))
        have S2 := Lib.hid (wrL_set N q k 44 (by rw [if_pos hn]))
        clear hn
        go_wp2_with fail
        go_roundw
        case rel =>
          have S3 := S.out.1.stored k (.int .u8 44)
          rw [List.set_set] at S3
          exact ⟨k + 1, by go_num, by omega, Lib.hid (by rw [← S2.out, ← cells_set]; exact S3.1), Lib.hid (grown_thenX (grown_thenX KW.out S.out.2 (fun j hj => by cases hj; exact K1.out.size)) S3.2 (fun j hj => by cases hj; exact K1.out.size))⟩
        case measure => simp [intOf]; omega
      · have t1 : ¬ (k : Int) < N := by omega
        have S := Lib.hid (O.out.stored k (.int .u8 32))
        have S2 := Lib.hid (wrL_set N q k 32 (by rw [if_neg hn]))
        clear hn
        go_wp2_with fail
        go_roundw
        case rel => exact ⟨k + 1, by go_num, by omega, Lib.hid (by rw [← S2.out, ← cells_set]; exact S.out.1), Lib.hid (grown_thenX KW.out S.out.2 (fun j hj => by cases hj; exact K1.out.size))⟩
        case measure => simp [intOf]; omega
    · obtain rfl : k = q := by omega
      have Hcv := Lib.hid (conv_own O.out)
      go_wp2_with fail
      rw [Hcv.out]
      simp only [Result.andThen]
      rw [Oper.upon_value]
      go_wp2_with fail
      refine (HL.out _ KW.out).mono ?_
      rintro e w2 h
      by_cases h15 : 1500 < k
      · rw [L1.out h15] at h
        rcases h with ⟨p, c, hr, rfl, hg⟩ | ⟨t, v, hr, _⟩
        · cases hr
          have K3 := Lib.hid (KW.out.trans hg)
          have t2 : (1500 : Int) < k := by omega
          clear hg
          go_wp2_with fail
          go_ret
          exact ⟨rfl, K3.out⟩
        · cases hr
      have t2 : ¬ (1500 : Int) < k := by omega
      by_cases h25 : 250 < N
      · rw [L2.out (by omega) h25] at h
        rcases h with ⟨p, c, hr, rfl, hg⟩ | ⟨t, v, hr, _⟩
        · cases hr
          have K3 := Lib.hid (KW.out.trans hg)
          have t3 : (250 : Int) < N := by omega
          clear hg
          go_wp2_with fail
          go_ret
          exact ⟨rfl, K3.out⟩
        · cases hr
      · obtain ⟨tl, ht, hlen⟩ := L3.out (by omega) (by omega)
        rw [ht] at h
        rcases h with ⟨p, c, hr, _⟩ | ⟨t, v, hr, rfl, ho, hg⟩
        · cases hr
        · cases hr
          rw [hlen] at ho
          obtain ⟨gb, cb, rfl, _, _, _⟩ := own_at ho (by omega)
          have K3 := Lib.hid (KW.out.trans hg)
          have t3 : ¬ (250 : Int) < N := by omega
          have t4 : ((((N + 1 : Nat) : Int)) == (N : Int) + 1) = true := beq_iff_eq.2 (by omega)
          clear hg ho ht hlen h15 h25
          go_wp2_with fail
          go_ret
          exact ⟨by first | rfl | simp, K3.out⟩
end Go.Proofs.YtiahojbliaaklaaDoor
