/- The contract of the document's Lex. The law LexReads, walked: true at any text. The law LexReads, walked: true at any text. The law LexReads, in the row's words. -/
import Derived.Test.YtiahojbliaaklaaGreatDoorLxRs
import Derived.Test.YtiahojbliaaklaaGreatDoorLxSq
import Derived.Laws.OwnMore
import Derived.Test.YtiahojbliaaklaaGreatDoorFrameL
namespace Go.Proofs.YtiahojbliaaklaaGreatDoor
open Go.RowKit

theorem refToken_any (s : ByteArray) (k : Nat) (w : World) (hk : k < s.size) (hs : s.size ≤ 1510) :
    Calls Tryz.prog 11 #[.string s, .int .i64 k] w (RefTok k (tokL (s.data.toList.drop k)) w) := by
  cases hl : letrB s[k]
  · cases hd : digB s[k]
    · by_cases h45 : s[k] = 45
      · exact refTok_num s k w hk hs hl (.inr h45)
      · by_cases h39 : s[k] = 39
        · exact refTok_quote s k w hk hs h39
        · exact refTok_sign s k w hk hs hl hd h45 h39
    · exact refTok_num s k w hk hs hl (.inl hd)
  · exact refTok_let s k w hk hs hl
theorem runL_stop (f : UInt8 → Bool) : ∀ l : List UInt8, runL f l < l.length → f (l.getD (runL f l) 0) = false
  | [], h => by simp at h
  | c :: r, h => by
    by_cases hc : f c = true
    · have e : runL f (c :: r) = runL f r + 1 := by rw [runL, hc]; rfl
      rw [e] at h ⊢
      have := runL_stop f r (by simpa using h)
      simpa using this
    · have hc' : f c = false := by simpa using hc
      have e : runL f (c :: r) = 0 := by rw [runL, hc']; rfl
      rw [e]; simpa using hc'
theorem nxt_stop (s : ByteArray) (k : Nat) (hk : k ≤ s.size) (h : nxt s k < s.size) : blankB s[nxt s k] = false := by
  have hz : s.data.toList.length = s.size := by rw [Array.length_toList]; rfl
  have := runL_stop blankB (s.data.toList.drop k) (by rw [List.length_drop, hz]; unfold nxt at h; omega)
  rw [List.getD, List.getElem?_drop] at this
  have h2 := byte_at h
  rw [List.getD] at h2
  rw [← h2]
  exact this
theorem blk_nxtR (s : ByteArray) (k j : Nat) (h1 : k ≤ j) (h2 : j < nxt s k) : blankB (s.data.toList.getD j 0) = true := blk_nxt s k j h1 h2
theorem blank_not {c : UInt8} (h : blankB c = false) : c.toNat ≠ 32 ∧ c.toNat ≠ 9 ∧ c.toNat ≠ 10 ∧ c.toNat ≠ 13 := by
  unfold blankB at h
  simp at h
  omega
theorem blank_ofR {c : UInt8} (h : blankB c = true) : c.toNat = 32 ∨ c.toNat = 9 ∨ c.toNat = 10 ∨ c.toNat = 13 := by
  unfold blankB at h
  simp at h
  omega
set_option maxRecDepth 100000 in
set_option maxHeartbeats 6400000 in
theorem refLex_any (s : ByteArray) (w : World) (hsz : s.size ≤ 1510) :
    Calls Tryz.prog 6 #[.string s] w (LexIs (lexL s) w) := by
  by_cases hbig : 1500 < s.size
  · have hL : lexL s = .error (1500, 13) := by unfold lexL; rw [if_pos hbig]
    rw [hL]
    have hb : (1500 : Int) < s.size := by omega
    clear hL hbig
    go_enter Tryz.func6, Tryz.ntmps6
    go_wp2_with fail
    go_ret3
    exact .inl ⟨1500, 13, rfl, rfl, grown_reflX _ _⟩
  · have hL : lexL s = lexF s (s.size + 1) 0 [] := by unfold lexL; rw [if_neg hbig]
    rw [hL]
    have hb : (s.size : Int) ≤ 1500 := by omega
    obtain ⟨r, hr⟩ : ∃ r, r = lexF s (s.size + 1) 0 [] := ⟨_, rfl⟩
    rw [← hr]
    have HR := Lib.hid hr
    clear hL hbig hr
    obtain ⟨i0, hi, hz0, hz1, hz2⟩ := info_partsX tk_info
    go_enter Tryz.func6, Tryz.ntmps6
    go_wp2_with fail
    go_loopw [5, 6, 9] (fun v a c wr => ∃ (k f : Nat) (acc : List Tk) (N : Nat), a = .int .i64 k ∧ k ≤ s.size ∧ s.size - k < f ∧ N ≤ 250 ∧ Hid (N = acc.length) ∧ Hid (r = lexF s f k acc) ∧ Hid (wr.ownsRow w.heap.size 31 3 v N (acc.flatMap Tk.c)) ∧ Hid (w.grownBy wr none)) (fun _ a _ _ => s.size - (intOf a).toNat)
    case atStart => exact ⟨0, s.size + 1, [], 0, rfl, by omega, by omega, by omega, Lib.hid rfl, Lib.hid HR.out, Lib.hid ⟨rfl, .inl ⟨rfl, rfl⟩⟩, Lib.hid (grown_reflX _ _)⟩
    case round =>
      obtain ⟨k, f, acc, N, rfl, hk, hf, hN, HN, HRr, HO, GW⟩ := hrel
      obtain ⟨ao, cp, rfl⟩ := slice_of_ownX HO.out
      obtain ⟨f, rfl⟩ : ∃ f', f = f' + 1 := ⟨f - 1, by omega⟩
      have hq := nxt_le s k hk
      have hrd := lexF_round s f k acc
      have HRd := Lib.hid hrd
      have HBk := Lib.hid (blk_nxtR s k)
      have HSt := Lib.hid (nxt_stop s k hk)
      have HTk := Lib.hid (fun h W => refToken_any s (nxt s k) W h hsz)
      have HMt := Lib.hid (fun kd M (h : tokL (s.data.toList.drop (nxt s k)) = (kd, M, 0)) => tokL_len _ _ _ _ h)
      have hro := HO.out.lt
      obtain ⟨q, hqe⟩ : ∃ q, q = nxt s k := ⟨_, rfl⟩
      have HQe := Lib.hid hqe
      rw [← hqe] at hq
      clear hrd hqe
      have k0 : (0 : Int) ≤ k := by omega
      have q1 : (q : Int) ≤ s.size := by omega
      go_wp2_with fail
      go_loop [6] (fun a => ∃ j : Nat, a = .int .i64 j ∧ k ≤ j ∧ j ≤ q) (fun a => q - (intOf a).toNat)
      case atStart => exact ⟨k, rfl, by omega, hq.1⟩
      case round =>
        obtain ⟨j, rfl, hj1, hj2⟩ := hrel
        have j0 : (0 : Int) ≤ j := by omega
        by_cases hjq : j < q
        · have hjs : j < s.size := by omega
          have j1 : (j : Int) < s.size := by omega
          have hbl := HBk.out j hj1 (by rw [← HQe.out]; exact hjq)
          rw [byte_at hjs] at hbl
          rcases blank_ofR hbl with h | h | h | h
          · have u0 : ((s[j].toNat : Int) == 32) = true := beq_iff_eq.2 (by omega)
            clear h hbl
            go_wp2_with fail
            go_round
            case rel => exact ⟨j + 1, by go_num, by omega, by omega⟩
            case measure => simp [intOf]; omega
          · have u0 : ((s[j].toNat : Int) == 9) = true := beq_iff_eq.2 (by omega)
            have u1 : ((s[j].toNat : Int) == 32) = false := beq_eq_false_iff_ne.2 (by omega)
            clear h hbl
            go_wp2_with fail
            go_round
            case rel => exact ⟨j + 1, by go_num, by omega, by omega⟩
            case measure => simp [intOf]; omega
          · have u0 : ((s[j].toNat : Int) == 10) = true := beq_iff_eq.2 (by omega)
            have u1 : ((s[j].toNat : Int) == 32) = false := beq_eq_false_iff_ne.2 (by omega)
            have u2 : ((s[j].toNat : Int) == 9) = false := beq_eq_false_iff_ne.2 (by omega)
            clear h hbl
            go_wp2_with fail
            go_round
            case rel => exact ⟨j + 1, by go_num, by omega, by omega⟩
            case measure => simp [intOf]; omega
          · have u0 : ((s[j].toNat : Int) == 13) = true := beq_iff_eq.2 (by omega)
            have u1 : ((s[j].toNat : Int) == 32) = false := beq_eq_false_iff_ne.2 (by omega)
            have u2 : ((s[j].toNat : Int) == 9) = false := beq_eq_false_iff_ne.2 (by omega)
            have u3 : ((s[j].toNat : Int) == 10) = false := beq_eq_false_iff_ne.2 (by omega)
            clear h hbl
            go_wp2_with fail
            go_round
            case rel => exact ⟨j + 1, by go_num, by omega, by omega⟩
            case measure => simp [intOf]; omega
        · obtain rfl : j = q := by omega
          by_cases hend : j = s.size
          · have hE := HRd.out.1 (by rw [← HQe.out]; exact hend)
            have HRR := Lib.hid (HRr.out.trans hE)
            subst hend
            clear hE hjq
            go_wp2_with (at_builtin; refine wpList_append_own _ rfl (.tmp 47) (.tmp 50) 23 rfl w.heap.size 31 i0 (.agg #[.int .i64 0, .string ⟨#[]⟩, .int .i64 0]) 3 32 Tryz.underlying23 hi hz0 hz1 hz2 rfl (by decide) _ _ _ rfl (HO.out.alloc _) ⟨wr.heap.size, 0, none⟩ 1 1 [.int .i64 0, .string ⟨#[]⟩, .int .i64 (s.size : Nat)] rfl rfl ?a1 ?a2 ?a3 ?a4 ?a5 ?_)
            all_goals try (intro j u h; exact three_new wr _ _ _ 31 j u h)
            case a2 => first | exact ⟨rfl, rfl, rfl⟩ | (intro u hu; simp at hu; rcases hu with rfl | rfl | rfl <;> rfl)
            case a3 => first | omega | (unfold maxLen; omega)
            case a4 => omega
            case a5 => have hg5 := GW.out.size; first | omega | (simp; omega)
            intro v' w3 hown' hgrow _
            have O3 := Lib.hid hown'
            have G3 := Lib.hid (grown_thenX (GW.out.trans (World.grownBy_alloc _ _ _)) hgrow (fun j hj => (hro j hj).1))
            clear hown' hgrow
            go_wp2_with fail
            go_ret3
            exact .inr ⟨_, _, HRR.out, rfl, own_tk O3.out HN.out rfl (Nat.le_refl _), G3.out⟩
          · have hjs : j < s.size := by omega
            have j1 : (j : Int) < s.size := by omega
            have tz : ((j : Int) == (s.size : Int)) = false := beq_eq_false_iff_ne.2 (by omega)
            have hst := HSt.out (by rw [← HQe.out]; exact hjs)
            have hqs : blankB s[j] = false := by
              have e : s[j] = s[nxt s k]'(by rw [← HQe.out]; exact hjs) := by congr 1
              rw [e]; exact hst
            obtain ⟨n1, n2, n3, n4⟩ := blank_not hqs
            have t1 : ((s[j].toNat : Int) == 32) = false := beq_eq_false_iff_ne.2 (by omega)
            have t2 : ((s[j].toNat : Int) == 9) = false := beq_eq_false_iff_ne.2 (by omega)
            have t3 : ((s[j].toNat : Int) == 10) = false := beq_eq_false_iff_ne.2 (by omega)
            have t4 : ((s[j].toNat : Int) == 13) = false := beq_eq_false_iff_ne.2 (by omega)
            cases ht : tokL (s.data.toList.drop j) with | mk kd MC =>
            obtain ⟨M, c⟩ := MC
            have hTk : Hid (∀ W, Calls Tryz.prog 11 #[.string s, .int .i64 j] W (RefTok j (kd, M, c) W)) := Lib.hid fun W => by
              have := HTk.out (by rw [← HQe.out]; exact hjs) W
              rw [← HQe.out, ht] at this
              exact this
            have hrd2 := HRd.out.2 (by rw [← HQe.out]; omega) kd M c (by rw [← HQe.out]; exact ht)
            rw [← HQe.out] at hrd2
            have hM := fun h0 : c = 0 => HMt.out kd M (by rw [← HQe.out, ht, h0])
            rw [← HQe.out] at hM
            clear hst hqs n1 n2 n3 n4 ht HTk HSt HBk HMt HRd
            cases c with
            | succ c =>
              have HRR := Lib.hid (HRr.out.trans (hrd2.1 (by omega)))
              clear hrd2 hM
              go_wp2_with fail
              refine (hTk.out _).mono ?_
              rintro e w2 ⟨⟨ea, eb, rfl, _⟩, hg⟩
              have K2 := Lib.hid (GW.out.trans hg)
              have tc1 : (((c + 1 : Nat) : Int) == 0) = false := beq_eq_false_iff_ne.2 (by omega)
              have tc2 : (((c + 1 : Nat) : Int) != 0) = true := by rw [bne_iff_ne]; omega
              clear hg
              go_wp2_with fail
              go_ret3
              exact .inl ⟨j, c + 1, HRR.out, rfl, K2.out⟩
            | zero =>
              by_cases h250 : N = 250
              · have HRR := Lib.hid (HRr.out.trans (hrd2.2.1 rfl (by rw [← HN.out]; exact h250)))
                have tN : (250 : Int) ≤ N := by omega
                clear hrd2 hM
                go_wp2_with fail
                refine (hTk.out _).mono ?_
                rintro e w2 ⟨⟨ea, eb, rfl, _⟩, hg⟩
                have K2 := Lib.hid (GW.out.trans hg)
                clear hg
                go_wp2_with fail
                go_ret3
                exact .inl ⟨j, 3, HRR.out, rfl, K2.out⟩
              · have HRR := Lib.hid (HRr.out.trans (hrd2.2.2 rfl (by rw [← HN.out]; exact h250)))
                have tN : ¬ (250 : Int) ≤ N := by omega
                have hM3 := hM rfl
                rw [List.length_drop, Array.length_toList] at hM3
                have hszd : s.data.size = s.size := rfl
                have hM1 := hM3.2.1 (by first | rfl | trivial)
                have hM2 := hM3.1
                obtain ⟨P, hP⟩ : ∃ P, P = j + M := ⟨_, rfl⟩
                rw [← hP] at HRR
                have p1 : (P : Int) ≤ s.size := by omega
                have p2 : (j : Int) ≤ P := by omega
                have hN2 : N + 1 ≤ 250 := by omega
                have hp1 : P ≤ s.size := by omega
                have hf2 : s.size - P < f := by omega
                have hjP : k < P := by omega
                have HP := Lib.hid hP
                have hTz : Hid (∀ W, Calls Tryz.prog 11 #[.string s, .int .i64 j] W fun e w' => e = .returned (.tuple #[.int .i64 kd, .int .i64 (P : Nat), .int .i64 0]) ∧ W.grownBy w' none) := Lib.hid fun W => (hTk.out W).mono fun e w' ⟨⟨ea, eb, he, hab⟩, hg⟩ => by
                  obtain ⟨h1, h2⟩ := hab rfl
                  refine ⟨?_, hg⟩
                  rw [he, h1, h2, ← HP.out]
                  rfl
                clear hTk hrd2 hM hM3 hM1 hM2 h250 hszd hP
                go_wp2_with fail
                refine (hTz.out _).mono ?_
                rintro e w2 ⟨rfl, hg⟩
                have O2 := Lib.hid (HO.out.kept hg (by cases hv : (Value.slice ao N cp).ownBlock <;> simp))
                have K2 := Lib.hid (GW.out.trans hg)
                clear hg
                go_wp2_with (at_builtin; refine wpList_append_own _ rfl (.tmp 70) (.tmp 78) 23 rfl w.heap.size 31 i0 (.agg #[.int .i64 0, .string ⟨#[]⟩, .int .i64 0]) 3 32 Tryz.underlying23 hi hz0 hz1 hz2 rfl (by decide) _ _ _ rfl (O2.out.alloc _) ⟨w2.heap.size, 0, none⟩ 1 1 [.int .i64 kd, .string (s.extract j P), .int .i64 j] rfl rfl ?b1 ?b2 ?b3 ?b4 ?b5 ?_)
                case b1 => intro j u h; exact three_new w2 _ _ _ 31 j u h
                case b2 => intro u hu; simp at hu; rcases hu with rfl | rfl | rfl <;> rfl
                case b3 => unfold maxLen; omega
                case b4 => omega
                case b5 => have := K2.out.size; simp; omega
                intro v' w3 hown' hgrow _
                have O3 := Lib.hid hown'
                have G3 := Lib.hid (grown_thenX (K2.out.trans (World.grownBy_alloc _ _ _)) hgrow (fun j hj => (hro j hj).1))
                clear hown' hgrow
                go_wp2_with fail
                go_roundw
                case rel => exact ⟨P, f, acc ++ [⟨kd, s.extract j P, j⟩], N + 1, rfl, hp1, hf2, hN2, Lib.hid (by rw [List.length_append, ← HN.out]; rfl), HRR, Lib.hid (by rw [tk_snoc]; exact O3.out), G3⟩
                case measure => simp [intOf]; omega
end Go.Proofs.YtiahojbliaaklaaGreatDoor
namespace Go.Proofs.YtiahojbliaaklaaGreatDoor
open Go.RowKit

theorem tk_cellR {w : World} {B g cap : Nat} {n : Nat} {t : List Tk} (h : w.ownsRow B 31 3 (.slice (some ⟨g, 0, none⟩) n cap) n (t.flatMap Tk.c)) (hn : n = t.length) (k : Nat) (hk : k < n) :
    ∃ x : Tk, t[k]? = some x ∧ w.cell? ⟨g, k * 3, none⟩ = some (.int .i64 x.kind) ∧ w.cell? ⟨g, k * 3 + 1, none⟩ = some (.string x.text) ∧ w.cell? ⟨g, k * 3 + 2, none⟩ = some (.int .i64 x.pos) := by
  have hkt : k < t.length := by omega
  refine ⟨t[k], List.getElem?_eq_getElem hkt, ?_⟩
  have e : t.flatMap Tk.c = (t.take k).flatMap Tk.c ++ ((t[k]).c ++ (t.drop (k + 1)).flatMap Tk.c) := by
    rw [← List.flatMap_cons, ← List.drop_eq_getElem_cons, ← List.flatMap_append, List.take_append_drop]
  have hp := tk_len (t.take k)
  rw [List.length_take, Nat.min_eq_left (by omega)] at hp
  rw [e] at h
  have a := fun j (hj : j < 3) => h.cellAt (k * 3 + j) (by omega)
  have b : ∀ j, j < 3 → ((t.take k).flatMap Tk.c ++ ((t[k]).c ++ (t.drop (k + 1)).flatMap Tk.c))[k * 3 + j]? = (t[k]).c[j]? := fun j hj => by
    rw [List.getElem?_append_right (by omega), hp, Nat.add_sub_cancel_left, List.getElem?_append_left (by simp [Tk.c]; omega)]
  exact ⟨(a 0 (by omega)).trans (b 0 (by omega)), (a 1 (by omega)).trans (b 1 (by omega)), (a 2 (by omega)).trans (b 2 (by omega))⟩
set_option maxRecDepth 100000 in
set_option maxHeartbeats 3200000 in
theorem same_nil (w : World) (c c' : Nat) : Calls Tryz.prog 7 #[.slice none 0 c, .slice none 0 c'] w fun e w' => e = .returned (.bool true) ∧ w.grownBy w' none := by
  go_enter Tryz.func7, Tryz.ntmps7
  go_wp2_with fail
  go_loopw [13] (fun i wr => i = .int .i64 0 ∧ w = wr) (fun _ _ => 0)
  case atStart => exact ⟨rfl, rfl⟩
  case round =>
    obtain ⟨rfl, rfl⟩ := hrel
    go_wp2_with fail
    go_ret
    exact ⟨rfl, grown_reflX _ _⟩
set_option maxRecDepth 100000 in
set_option maxHeartbeats 3200000 in
theorem same_yes (w : World) (B B' g g' cap cap' n : Nat) (t : List Tk) (hn : n = t.length) (hb : n ≤ 251) (h : w.ownsRow B 31 3 (.slice (some ⟨g, 0, none⟩) n cap) n (t.flatMap Tk.c)) (h' : w.ownsRow B' 31 3 (.slice (some ⟨g', 0, none⟩) n cap') n (t.flatMap Tk.c)) (hc : n ≤ cap) (hc' : n ≤ cap') :
    Calls Tryz.prog 7 #[.slice (some ⟨g, 0, none⟩) n cap, .slice (some ⟨g', 0, none⟩) n cap'] w fun e w' => e = .returned (.bool true) ∧ w.grownBy w' none := by
  have H := Lib.hid h
  have H' := Lib.hid h'
  have HN := Lib.hid hn
  clear h h' hn
  go_enter Tryz.func7, Tryz.ntmps7
  go_wp2_with fail
  go_loopw [13] (fun i wr => ∃ k : Nat, i = .int .i64 k ∧ k ≤ n ∧ Hid (w.grownBy wr none)) (fun i _ => n - (intOf i).toNat)
  case atStart => exact ⟨0, rfl, by omega, Lib.hid (grown_reflX _ _)⟩
  case round =>
    obtain ⟨k, rfl, hk, GX⟩ := hrel
    have d0 : (0 : Int) ≤ k := by omega
    by_cases hlt : k < n
    · have d1 : (k : Int) < n := by omega
      have d2 : (k : Int) < cap := by omega
      have d3 : (k : Int) < cap' := by omega
      have O1 := H.out.kept GX.out (.inr (by simp [Value.ownBlock]))
      have O2 := H'.out.kept GX.out (.inr (by simp [Value.ownBlock]))
      obtain ⟨x, hx, c0, c1, c2⟩ := tk_cellR O1 HN.out k hlt
      obtain ⟨x', hx', e0, e1, e2⟩ := tk_cellR O2 HN.out k hlt
      rw [hx] at hx'
      cases hx'
      obtain ⟨xk, xt, xp⟩ := x
      simp only at c0 c1 c2 e0 e1 e2
      clear O1 O2 hx
      go_wp2_with fail
      go_quiet (fail)
      go_wp2_with fail
      go_roundw
      case rel => exact ⟨k + 1, by go_num, by omega, Lib.hid (grown_drewX GX.out _)⟩
      case measure => simp [intOf]; omega
    · obtain rfl : k = n := by omega
      go_wp2_with fail
      go_ret
      exact ⟨rfl, GX.out⟩
end Go.Proofs.YtiahojbliaaklaaGreatDoor
namespace Go.Proofs.YtiahojbliaaklaaGreatDoor
open Go.RowKit

set_option maxRecDepth 100000 in
set_option maxHeartbeats 6400000 in
theorem LexReads_walk (G : Nat) (n g m l : Addr) (s : ByteArray) (w : World) (hE : LxEnv G n g m l w) (hs0 : s.size ≤ maxLen) :
    Calls Tryz.prog 3 #[.string s] w fun e w' => e = .returned (.bool true) ∧ w.grownBy w' none := by
  unfold maxLen at hs0
  have HA := Lib.hid (fun W (hW : w.grownBy W none) => awake10_any G n g m l W (hE.keep hW))
  have HE := Lib.hid hE
  obtain ⟨N, hN, hN1, hN2⟩ : ∃ N : Nat, min (s.size : Int) 1501 = (N : Int) ∧ N ≤ 1501 ∧ N ≤ s.size := ⟨min s.size 1501, by omega, by omega, by omega⟩
  have n0 : (0 : Int) ≤ N := by omega
  have n1 : (N : Int) ≤ s.size := by omega
  have hSz : (s.extract 0 N).size ≤ 1510 := by rw [ByteArray.size_extract]; omega
  have HL := Lib.hid (fun W (hW : LxEnv G n g m l W) => Lex_any G n g m l (s.extract 0 N) W hW)
  have HRf := Lib.hid (fun W => refLex_any (s.extract 0 N) W hSz)
  have HLn := Lib.hid (lexL_len (s.extract 0 N))
  have HSq := Lib.hid (lexL_seq (s.extract 0 N))
  generalize lexL (s.extract 0 N) = rr at *
  clear hE
  go_enter Tryz.func3, Tryz.ntmps3
  go_wp2_with fail
  refine (HA.out _ (grown_reflX _ _)).mono ?_
  rintro e w1 ⟨rfl, hg⟩
  have K1 := Lib.hid hg
  clear hg
  go_wp2_with fail
  refine (HL.out _ (HE.out.keep K1.out)).mono ?_
  rintro e w2 h
  rcases h with ⟨p, c, hr, rfl, hg⟩ | ⟨t, v, hr, rfl, ho, hg⟩
  · have K2 := Lib.hid (K1.out.trans hg)
    have HR := Lib.hid hr
    clear hg hr
    go_wp2_with fail
    refine (HRf.out _).mono ?_
    rintro e w3 h
    rcases h with ⟨p', c', hr, rfl, hg⟩ | ⟨t, v, hr, _⟩
    · rw [HR.out] at hr
      cases hr
      have K3 := Lib.hid (K2.out.trans hg)
      have HSm := Lib.hid (fun W => same_nil W 0 0)
      have f0 : ((c : Int) != (c : Int)) = false := by simp
      have f1 : ((p : Int) != (p : Int)) = false := by simp
      clear hg
      go_wp2_with fail
      refine (HSm.out _).mono ?_
      rintro e w4 ⟨rfl, hg⟩
      have K4 := Lib.hid (K3.out.trans hg)
      clear hg
      go_wp2_with fail
      go_loopw [48] (fun i wr => i = .int .i64 0 ∧ w4 = wr) (fun _ _ => 0)
      case atStart => exact ⟨rfl, rfl⟩
      case round =>
        obtain ⟨rfl, rfl⟩ := hrel
        go_wp2_with fail
        refine (HL.out _ (HE.out.keep K4.out)).mono ?_
        rintro e w5 h
        rcases h with ⟨p', c', hr, rfl, hg⟩ | ⟨t, v, hr, _⟩
        · have K5 := Lib.hid (K4.out.trans hg)
          clear hg
          go_wp2_with fail
          refine (HSm.out _).mono ?_
          rintro e w6 ⟨rfl, hg⟩
          have K6 := Lib.hid (K5.out.trans hg)
          clear hg
          go_wp2_with fail
          go_ret
          exact ⟨rfl, K6.out⟩
        · rw [HR.out] at hr; cases hr
    · rw [HR.out] at hr; cases hr
  · have K2 := Lib.hid (K1.out.trans hg)
    have hln := HLn.out t hr
    have HR := Lib.hid hr
    have ht0 : 0 < t.length := List.length_pos_iff.2 ((HSq.out t hr).1.ne)
    obtain ⟨gb, cb, rfl, hcb, hgB, hgL⟩ := own_at ho ht0
    have O := Lib.hid ho
    obtain ⟨M, hM⟩ : ∃ M, M = t.length := ⟨_, rfl⟩
    rw [← hM] at O hcb ht0 ⊢
    have HM := Lib.hid hM
    have m1 : (M : Int) ≤ 251 := by omega
    have hw1 := K1.out.size
    clear hg hr ho hM
    go_wp2_with fail
    refine (HRf.out _).mono ?_
    rintro e w3 h
    rcases h with ⟨p', c', hr, _⟩ | ⟨t', v, hr, rfl, ho', hg⟩
    · rw [HR.out] at hr; cases hr
    · rw [HR.out] at hr
      cases hr
      rw [← HM.out] at ho'
      obtain ⟨gc, cc, rfl, hcc, hgC, hgCL⟩ := own_at ho' ht0
      have O3 := Lib.hid (O.out.kept hg (.inr (by simp [Value.ownBlock])))
      have OR := Lib.hid ho'
      have K3 := Lib.hid (K2.out.trans hg)
      have HSm := Lib.hid (same_yes w3 _ _ gb gc cb cc M t HM.out (by omega) O3.out OR.out hcb hcc)
      clear hg ho'
      go_wp2_with fail
      refine (HSm.out).mono ?_
      rintro e w4 ⟨rfl, hg⟩
      have K4 := Lib.hid (K3.out.trans hg)
      have O4 := Lib.hid (O3.out.kept hg (.inr (by simp [Value.ownBlock])))
      have OR4 := Lib.hid (OR.out.kept hg (.inr (by simp [Value.ownBlock])))
      have hgne : gc ≠ gb := by omega
      clear hg
      go_wp2_with fail
      go_loopw [48] (fun i wr => ∃ (k : Nat) (xs : List Value), i = .int .i64 k ∧ k ≤ M ∧ Hid (wr.ownsRow w1.heap.size 31 3 (.slice (some ⟨gb, 0, none⟩) M cb) M xs) ∧ Hid (w4.grownBy wr (some gb))) (fun i _ => M - (intOf i).toNat)
      case atStart => exact ⟨0, _, rfl, by omega, O4, Lib.hid (grown_reflX _ _)⟩
      case round =>
        obtain ⟨k, xs, rfl, hk, OX, GX⟩ := hrel
        have d0 : (0 : Int) ≤ k := by omega
        by_cases hlt : k < M
        · have d1 : (k : Int) < M := by omega
          have d2 : (k : Int) < cb := by omega
          have hxl : xs.length = M * 3 := OX.out.1
          have cx := OX.out.cellAt (k * 3) (by omega)
          rw [List.getElem?_eq_getElem (by omega)] at cx
          obtain ⟨u, hu⟩ : ∃ u, u = xs[k * 3]'(by omega) := ⟨_, rfl⟩
          rw [← hu] at cx
          have fx := OX.out.frozenAt (k * 3)
          have ST := Lib.hid (OX.out.stored (k * 3) (.int .i64 (-1)))
          clear hu hxl
          go_wp2_with fail
          go_roundw
          case rel => exact ⟨k + 1, _, by go_num, by omega, Lib.hid ST.out.1, Lib.hid (GX.out.trans ST.out.2)⟩
          case measure => simp [intOf]; omega
        · obtain rfl : k = M := by omega
          have OR5 := Lib.hid (OR4.out.kept GX.out (.inr (by simp [Value.ownBlock]; omega)))
          have K5 := Lib.hid (grown_thenX K4.out GX.out (fun j hj => by cases hj; omega))
          have hE5 := HE.out.keep K5.out
          have HE5 := Lib.hid hE5
          clear hE5
          go_wp2_with fail
          refine (HL.out _ HE5.out).mono ?_
          rintro e w6 h
          rcases h with ⟨p', c', hr, _⟩ | ⟨t', v, hr, rfl, ho6, hg⟩
          · rw [HR.out] at hr; cases hr
          · rw [HR.out] at hr
            cases hr
            rw [← HM.out] at ho6
            obtain ⟨gd, cd, rfl, hcd, _, _⟩ := own_at ho6 ht0
            have OR6 := OR5.out.kept hg (.inr (by simp [Value.ownBlock]))
            have K6 := Lib.hid (K5.out.trans hg)
            have HSm2 := Lib.hid (same_yes w6 _ _ gd gc cd cc k t HM.out (by omega) ho6 OR6 hcd hcc)
            clear hg ho6 OR6
            go_wp2_with fail
            refine (HSm2.out).mono ?_
            rintro e w7 ⟨rfl, hg⟩
            have K7 := Lib.hid (K6.out.trans hg)
            clear hg
            go_wp2_with fail
            go_ret
            exact ⟨rfl, K7.out⟩
end Go.Proofs.YtiahojbliaaklaaGreatDoor
namespace Go.Proofs.YtiahojbliaaklaaGreatDoor
open Go.RowKit
theorem LexReads_any (s : ByteArray) (W : World) (hs : s.size ≤ maxLen) (hL : laidMetH Tryz.prog laid10x W) : Calls Tryz.prog 3 #[.string s] W fun e w' => e = .returned (.bool true) ∧ Below W.heap.size W w' := by
  obtain ⟨n, g, m, l, hE⟩ := lxEnv_of hL
  exact (LexReads_walk _ n g m l s W hE hs).mono fun _ _ ⟨he, hg⟩ => ⟨he, below_grownL hg⟩
end Go.Proofs.YtiahojbliaaklaaGreatDoor
