/- The law LexOrder, walked: true at any text. -/
import Derived.Test.YtiahojbliaaklaaDoorLxSq
import Derived.Test.YtiahojbliaaklaaDoorLxK
import Derived.Deep.DeepCutAuto
namespace Go.Proofs.YtiahojbliaaklaaDoor
open Go.RowKit

/-- A token at the head of those that are left. -/
structure Head (s : ByteArray) (k : Nat) (t : Tk) (r : List Tk) : Prop where
  le : k ≤ t.pos
  fit : t.pos + t.text.size ≤ s.size
  is : s.extract t.pos (t.pos + t.text.size) = t.text
  blk : Blk s k t.pos
  rest : (r = [] ∧ t = ⟨0, ⟨#[]⟩, s.size⟩) ∨ (r ≠ [] ∧ 1 ≤ t.text.size ∧ Seq s (t.pos + t.text.size) r)
theorem Seq.head {s : ByteArray} {k : Nat} {l : List Tk} (h : Seq s k l) : ∃ t r, l = t :: r ∧ Head s k t r := by
  cases h with
  | last _ hk hb => exact ⟨_, [], rfl, hk, Nat.le_refl _, by simp; ext1; simp, hb, .inl ⟨rfl, rfl⟩⟩
  | more _ q M kd r h1 h2 h3 hk hb ht hr =>
    have hz : (s.extract q (q + M)).size = M := by rw [ByteArray.size_extract]; omega
    refine ⟨_, r, rfl, h1, by simp only [hz]; exact h2, by simp only [hz], hb, .inr ⟨hr.ne, by simp only [hz]; exact h3, by simp only [hz]; exact hr⟩⟩
theorem blank_of {c : UInt8} (h : blankB c = true) : c.toNat = 32 ∨ c.toNat = 9 ∨ c.toNat = 10 ∨ c.toNat = 13 := by
  unfold blankB at h
  simp at h
  omega
theorem tk_cell {w : World} {B g cap : Nat} {n : Nat} {pre r : List Tk} {t : Tk} (h : w.ownsRow B 29 3 (.slice (some ⟨g, 0, none⟩) n cap) n ((pre ++ t :: r).flatMap Tk.c)) (hn : n = (pre ++ t :: r).length) :
    w.cell? ⟨g, pre.length * 3, none⟩ = some (.int .i64 t.kind) ∧ w.cell? ⟨g, pre.length * 3 + 1, none⟩ = some (.string t.text) ∧ w.cell? ⟨g, pre.length * 3 + 2, none⟩ = some (.int .i64 t.pos) := by
  have hl : pre.length < n := by rw [hn]; simp
  have e : (pre ++ t :: r).flatMap Tk.c = pre.flatMap Tk.c ++ (t.c ++ r.flatMap Tk.c) := by simp
  have hp := tk_len pre
  rw [e] at h
  have a := fun j (hj : j < 3) => h.cellAt (pre.length * 3 + j) (by omega)
  have b : ∀ j, j < 3 → (pre.flatMap Tk.c ++ (t.c ++ r.flatMap Tk.c))[pre.length * 3 + j]? = t.c[j]? := fun j hj => by
    rw [List.getElem?_append_right (by omega), hp, Nat.add_sub_cancel_left, List.getElem?_append_left (by simp [Tk.c]; omega)]
  exact ⟨(a 0 (by omega)).trans (b 0 (by omega)), (a 1 (by omega)).trans (b 1 (by omega)), (a 2 (by omega)).trans (b 2 (by omega))⟩
set_option maxRecDepth 100000 in
set_option maxHeartbeats 6400000 in
theorem LexOrder_walk (G : Nat) (n g m l : Addr) (s : ByteArray) (w : World) (hE : LxEnv G n g m l w) :
    Calls Tryd.prog 4 #[.string s] w fun e w' => e = .returned (.bool true) ∧ w.grownBy w' none := by
  have HA := Lib.hid (fun W (hW : w.grownBy W none) => awake10_any G n g m l W (hE.keep hW))
  have HL := Lib.hid (fun W (hW : w.grownBy W none) => Lex_any G n g m l s W (hE.keep hW))
  have HCd := Lib.hid (lexL_codes s)
  have HSq := Lib.hid (lexL_seq s)
  have HLn := Lib.hid (lexL_len s)
  clear hE
  by_cases hs : s.size ≤ 1500
  · have hs' : (s.size : Int) ≤ 1500 := by omega
    generalize lexL s = rr at *
    go_enter Tryd.func4, Tryd.ntmps4
    go_wp2_with fail
    refine (HA.out _ (grown_reflX _ _)).mono ?_
    rintro e w1 ⟨rfl, hg⟩
    have K1 := Lib.hid hg
    clear hg
    go_wp2_with fail
    refine (HL.out _ K1.out).mono ?_
    rintro e w2 h
    rcases h with ⟨p, c, hr, rfl, hg⟩ | ⟨t, v, hr, rfl, ho, hg⟩
    · have K2 := Lib.hid (K1.out.trans hg)
      have hc := HCd.out p c hr
      have tc : ((c : Int) != 0) = true := by rw [bne_iff_ne]; omega
      clear hg hr hc
      go_wp2_with fail
      go_ret
      exact ⟨rfl, K2.out⟩
    · have K2 := Lib.hid (K1.out.trans hg)
      have hsq := (HSq.out t hr).1
      have hln := HLn.out t hr
      have ht0 : 0 < t.length := List.length_pos_iff.2 hsq.ne
      obtain ⟨gb, cb, rfl, hcb, _, _⟩ := own_at ho ht0
      have O := Lib.hid ho
      have S := Lib.hid hsq
      obtain ⟨N, hN⟩ : ∃ N, N = t.length := ⟨_, rfl⟩
      rw [← hN] at O hcb hln ht0 ⊢
      have HN := Lib.hid hN
      have n1 : (N : Int) ≤ 251 := by omega
      have n2 : (1 : Int) ≤ N := by omega
      clear hg hr hsq ho hN
      go_wp2_with fail
      go_loopw [6, 31] (fun a i wr => ∃ (k : Nat) (pre r : List Tk) (q : Nat), a = .int .i64 k ∧ i = .int .i64 q ∧ q < N ∧ k ≤ s.size ∧ Hid (q = pre.length) ∧ Hid (t = pre ++ r) ∧ Hid (Seq s k r) ∧ Hid (w2.grownBy wr none)) (fun _ i _ => N - (intOf i).toNat)
      case atStart => exact ⟨0, [], t, 0, rfl, rfl, ht0, by omega, Lib.hid rfl, Lib.hid rfl, S, Lib.hid (grown_reflX _ _)⟩
      case round =>
        obtain ⟨k, pre, r, q, rfl, rfl, hq, hk, Q, T, SS, GW⟩ := hrel
        obtain ⟨x, r', hr, hx⟩ := SS.out.head
        have O2 := O.out.kept GW.out (.inr (by simp [Value.ownBlock]))
        rw [T.out, hr] at O2
        obtain ⟨c0, c1, c2⟩ := tk_cell O2 (by rw [HN.out, T.out, hr])
        rw [← Q.out] at c0 c1 c2
        have hN2 : N = q + (1 + r'.length) := by rw [HN.out, T.out, hr, Q.out]; simp; omega
        have HN2 := Lib.hid hN2
        have HX := Lib.hid hx
        obtain ⟨xk, xt, xp⟩ := x
        simp only at c0 c1 c2
        have hle := hx.le
        have hfit := hx.fit
        simp only at hle hfit
        have HI := Lib.hid hx.is
        simp only at HI
        obtain ⟨p, hp⟩ : ∃ p, p = xp + xt.size := ⟨_, rfl⟩
        rw [← hp] at HI
        have tI : ((s.extract xp p).toList != xt.toList) = false := by rw [HI.out]; simp
        have tJ : ((s.extract xp p).toList == xt.toList) = true := by rw [HI.out]; simp
        have b0 : (0 : Int) ≤ q := by omega
        have b1 : (q : Int) < N := by omega
        have b2 : (k : Int) ≤ xp := by omega
        have b3 : (xp : Int) ≤ s.size := by omega
        have b4 : (xp : Int) + (xt.size : Int) = (p : Int) := by omega
        have b5 : (p : Int) ≤ s.size := by omega
        have b6 : (xp : Int) ≤ p := by omega
        have b7 : (xt.size : Int) ≤ (s.size : Int) - (xp : Int) := by omega
        have b8 : (0 : Int) ≤ k := by omega
        have b9 : (0 : Int) ≤ xp := by omega
        have w1' : IntKind.i64.wrap ((s.size : Int) - (xp : Int)) = (s.size : Int) - (xp : Int) := IntWalk.i64_in _ (by omega)
        have w2' : IntKind.i64.wrap ((xp : Int) + (xt.size : Int)) = (p : Int) := by rw [b4]; exact IntWalk.i64_in _ (by omega)
        have w3' : IntKind.i64.wrap (p : Int) = (p : Int) := IntWalk.i64_in _ (by omega)
        have e4 : decide (xp < k) = false := decide_eq_false (by omega)
        have e5 : decide (s.size < xp) = false := decide_eq_false (by omega)
        have e1 : decide ((xp : Int) < (k : Int)) = false := decide_eq_false (by omega)
        have e2 : decide ((s.size : Int) < (xp : Int)) = false := decide_eq_false (by omega)
        have e3 : decide ((s.size : Int) - (xp : Int) < (xt.size : Int)) = false := decide_eq_false (by omega)
        have HP := Lib.hid hp
        have HRr := Lib.hid hr
        clear O2 hx hN2 hr hfit hle hp
        go_wp2_with fail
        go_quiet (fail)
        go_wp2_with fail
        go_loop [6] (fun a => ∃ j : Nat, a = .int .i64 j ∧ k ≤ j ∧ j ≤ xp) (fun a => xp - (intOf a).toNat)
        case atStart => exact ⟨k, rfl, by omega, by omega⟩
        case round =>
          obtain ⟨j, rfl, hj1, hj2⟩ := hrel
          have d0 : (0 : Int) ≤ j := by omega
          by_cases hj : j < xp
          · have d1 : (j : Int) < xp := by omega
            have d2 : (j : Int) < s.size := by omega
            have hjs : j < s.size := by omega
            have hb := HX.out.blk j hj1 hj
            rw [byte_at hjs] at hb
            obtain ⟨y, hy⟩ : ∃ y, y = s[j] := ⟨_, rfl⟩
            rw [← hy] at hb
            have hix : (s[j]).toNat = y.toNat := by rw [hy]
            clear hy
            rcases blank_of hb with h | h | h | h
            · have t1 : ((y.toNat : Int) != 32) = false := by rw [bne_eq_false_iff_eq]; omega
              clear h hb
              go_wp2_with fail
              go_round
              case rel => exact ⟨j + 1, by go_num, by omega, by omega⟩
              case measure => simp [intOf]; omega
            · have t1 : ((y.toNat : Int) != 32) = true := by rw [bne_iff_ne]; omega
              have t2 : ((y.toNat : Int) != 9) = false := by rw [bne_eq_false_iff_eq]; omega
              clear h hb
              go_wp2_with fail
              go_round
              case rel => exact ⟨j + 1, by go_num, by omega, by omega⟩
              case measure => simp [intOf]; omega
            · have t1 : ((y.toNat : Int) != 32) = true := by rw [bne_iff_ne]; omega
              have t2 : ((y.toNat : Int) != 9) = true := by rw [bne_iff_ne]; omega
              have t3 : ((y.toNat : Int) != 10) = false := by rw [bne_eq_false_iff_eq]; omega
              clear h hb
              go_wp2_with fail
              go_round
              case rel => exact ⟨j + 1, by go_num, by omega, by omega⟩
              case measure => simp [intOf]; omega
            · have t1 : ((y.toNat : Int) != 32) = true := by rw [bne_iff_ne]; omega
              have t2 : ((y.toNat : Int) != 9) = true := by rw [bne_iff_ne]; omega
              have t3 : ((y.toNat : Int) != 10) = true := by rw [bne_iff_ne]; omega
              have t4 : ((y.toNat : Int) != 13) = false := by rw [bne_eq_false_iff_eq]; omega
              clear h hb
              go_wp2_with fail
              go_round
              case rel => exact ⟨j + 1, by go_num, by omega, by omega⟩
              case measure => simp [intOf]; omega
          · obtain rfl : j = xp := by omega
            rcases HX.out.rest with ⟨hr0, hx0⟩ | ⟨hr0, hx1, hsr⟩
            · have tq : ((q : Int) == (N : Int) - 1) = true := by
                have h1 := HN2.out
                rw [hr0, List.length_nil] at h1
                exact beq_iff_eq.2 (by omega)
              rw [Tk.mk.injEq] at hx0
              obtain ⟨rfl, rfl, rfl⟩ := hx0
              clear hr0
              go_wp2_with fail
              go_ret
              exact ⟨rfl, K2.out.trans (GW.out.trans (grown_drewX (World.grownBy_alloc _ _ _) _))⟩
            · have hl0 : 0 < r'.length := List.length_pos_iff.2 hr0
              have tq : ((q : Int) == (N : Int) - 1) = false := by
                have h1 := HN2.out
                exact beq_eq_false_iff_ne.2 (by omega)
              have hq2 : q + 1 < N := by have h1 := HN2.out; omega
              have hl1 : xt.data.toList ≠ [] := fun e => by have := size_list e; simp at hx1; rw [List.length_nil] at this; omega
              have te1 : (xt.toList == []) = false := by rw [Lib.toList_data, beq_eq_false_iff_ne]; exact hl1
              have te2 : xt.toList.isEmpty = false := by rw [Lib.toList_data]; simpa using hl1
              have HS := Lib.hid hsr
              have Q2 : Hid (q + 1 = (pre ++ [Tk.mk xk xt j]).length) := Lib.hid (by rw [List.length_append, ← Q.out]; rfl)
              have T2 : Hid (t = (pre ++ [Tk.mk xk xt j]) ++ r') := Lib.hid (by rw [T.out, HRr.out]; simp)
              have hp2 : p ≤ s.size := by omega
              clear hr0 hl0 hl1 hx1 hsr
              go_wp2_with fail
              go_roundw
              case rel => exact ⟨p, pre ++ [Tk.mk xk xt j], r', q + 1, by rfl, by go_num, hq2, hp2, Q2, T2, Lib.hid (by rw [HP.out]; exact HS.out), Lib.hid (GW.out.trans (grown_drewX (World.grownBy_alloc _ _ _) _))⟩
              case measure => simp [intOf]; omega
  · have hs' : (1500 : Int) < s.size := by omega
    clear hs
    go_enter Tryd.func4, Tryd.ntmps4
    go_wp2_with fail
    refine (HA.out _ (grown_reflX _ _)).mono ?_
    rintro e w1 ⟨rfl, hg⟩
    have K1 := Lib.hid hg
    clear hg
    go_wp2_with fail
    refine (HA.out _ K1.out).mono ?_
    rintro e w2 ⟨rfl, hg⟩
    have K2 := Lib.hid (K1.out.trans hg)
    clear hg
    go_wp2_with fail
    go_ret
    exact ⟨rfl, K2.out⟩
end Go.Proofs.YtiahojbliaaklaaDoor
