/- tree's walk: its next. The contract of lex's first. tree's From. -/
import Derived.Test.YtppigamibgefaaaGreatDoorZp16
namespace Go.Proofs.YtppigamibgefaaaGreatDoor
open Go.RowKit

/-- A node's pair in memory. -/
def PairAt (S : Nat → Prop) (w : World) (p : Ptr) (k r : List Vl) : Prop :=
  ∃ b ka kc va vc, p = some ⟨b, 0, none⟩ ∧ S b ∧ b < w.heap.size ∧ w.cell? ⟨b, 0, none⟩ = some (.slice ka k.length kc) ∧ w.cell? ⟨b, 1, none⟩ = some (.slice va r.length vc) ∧ RwS S w ka k ∧ RwS S w va r
theorem own_front {w : World} {B : Nat} {e : TypeId} {g n cap : Nat} {xs : List Value} {x : Value} (h : w.ownsRow B e 1 (.slice (some ⟨g, 0, none⟩) (n + 1) cap) (n + 1) (xs ++ [x])) (hn : xs.length = n) : w.ownsRow B e 1 (.slice (some ⟨g, 0, none⟩) n cap) n xs := by
  refine ⟨by omega, .inr ?_⟩
  rcases h.2 with ⟨e, _⟩ | ⟨g', cap', cur, e, hb, hg, h1, h2, h3, h4⟩
  · cases e
  · cases e
    refine ⟨g, cap, cur, rfl, hb, hg, by omega, h2, h3, ?_⟩
    have := congrArg (List.take n) h4
    rw [List.take_take, List.take_left' hn] at this
    rw [← this, Nat.mul_one]
    congr 1
    omega
theorem pend_len (key : List Vl) : ∀ l : List (Ptr × Tre), (∀ x ∈ l, 0 < x.2.n) → l.length ≤ (l.flatMap fun x => pendT key x.2).length
  | [], _ => by simp
  | (px, .nil) :: l, h => by have := h (px, .nil) (by simp); simp [Tr.n] at this
  | (px, .node a b c d) :: l, h => by
    have := pend_len key l (fun x hx => h x (by simp [hx]))
    rw [List.flatMap_cons, List.length_append]
    have e : (pendT key (Tr.node a b c d)).length = (fromL key d.toL).length + 1 := by simp [pendT]
    simp only [List.length_cons]
    omega
end Go.Proofs.YtppigamibgefaaaGreatDoor
namespace Go.Proofs.YtppigamibgefaaaGreatDoor
open Go.RowKit

theorem extract_front (s : ByteArray) (n : Nat) : (s.extract 0 n).data.toList = s.data.toList.take n := by
  simp
theorem size_ex (s : ByteArray) (n : Nat) (h : n ≤ s.size) : (s.extract 0 n).size = n := by
  rw [ByteArray.size_extract]; omega
/-- What first answers. -/
def FirstIs (n g m l : Addr) (t : Nat × Nat × Nat) (w : World) (e : Ending) (w' : World) : Prop := e = .returned (.tuple #[.int .i64 t.1, .int .i64 t.2.1, errV n g m l t.2.2]) ∧ w.grownBy w' none
theorem tok_front (s : ByteArray) (N : Nat) (hN : N ≤ s.size) (hs : s.size ≤ 1510) (G : Nat) (n g m l : Addr) (w : World) (hE : LxEnv G n g m l w) :
    Calls Tryz.prog 160 #[.string (s.extract 0 N)] w fun e w' => e = .returned (errV n g m l (litC (s.data.toList.take N))) ∧ w.grownBy w' none := by
  have := literal_any G n g m l (s.extract 0 N) w (by rw [size_ex s N hN]; omega) hE
  rw [extract_front] at this
  exact this
set_option maxHeartbeats 3200000 in
theorem first_any (G : Nat) (n g m l : Addr) (s : ByteArray) (w : World) (h1 : 1 ≤ s.size) (hs : s.size ≤ 1510) (hE : LxEnv G n g m l w) :
    Calls Tryz.prog 144 #[.string s] w (FirstIs n g m l (tokL s.data.toList) w) := by
  have HE := Lib.hid hE
  have HL : Hid (∀ N, N ≤ s.size → ∀ W, w.grownBy W none → Calls Tryz.prog 160 #[.string (s.extract 0 N)] W fun e w' => e = .returned (errV n g m l (litC (s.data.toList.take N))) ∧ W.grownBy w' none) := Lib.hid fun N hN W hW => tok_front s N hN hs G n g m l W (hE.keep hW)
  have HSg := Lib.hid (sign_any G n g m l s w h1 hE)
  have HQ := Lib.hid (quoted_any s w h1 hs)
  have HR1 := Lib.hid (run_part (s.extract 1 s.size) w (by rw [ByteArray.size_extract]; omega))
  have HR := Lib.hid (run_part s w hs)
  have HN : Hid (∀ N, Calls Tryz.prog 163 #[.string (s.extract 0 N)] w fun e w' => e = .returned (.tuple #[.int .i64 (namC (s.extract 0 N)).1, errV n g m l (namC (s.extract 0 N)).2]) ∧ w.grownBy w' none) := Lib.hid fun N => named_any G n g m l (s.extract 0 N) w hE
  rw [extract_to] at HR1
  clear hE
  cases hl : s.data.toList with
  | nil => have h9 := size_list hl; rw [List.length_nil] at h9; omega
  | cons c r =>
  obtain ⟨h0, ec⟩ := sign_byte hl
  have hlen := size_list hl
  rw [List.length_cons] at hlen
  have i0 : (0 : Int) < s.size := by omega
  have i1 : (1 : Int) ≤ s.size := by omega
  have ecn : s[0].toNat = c.toNat := by rw [ec]
  have HD := Lib.hid (lexDigit_any c.toNat c rfl w)
  have HPt := Lib.hid (part_any c.toNat c rfl w)
  rw [hl] at HL HSg HQ HR1 HR
  rw [List.drop_succ_cons, List.drop_zero] at HQ HR1
  have hq := qN_le r
  have hr1 := runL_le partB r
  have hr2 := runL_le partB (c :: r)
  rw [List.length_cons] at hr2
  have Hlen := Lib.hid hlen
  have Hl := Lib.hid hl
  unfold tokL
  simp only
  clear hl ec
  by_cases q39 : c.toNat = 39
  · rw [if_pos q39]
    have t39 : ((c.toNat : Int) == 39) = true := beq_iff_eq.2 (by omega)
    obtain ⟨N, hN⟩ : ∃ N, N = 1 + qN r := ⟨_, rfl⟩
    have HL1 := Lib.hid (HL.out N (by omega))
    rw [← hN] at HQ ⊢
    have j0 : (0 : Int) ≤ N := by omega
    have j1 : (N : Int) ≤ s.size := by omega
    clear hN hq hr1 hr2 hlen q39
    generalize litC ((c :: r).take N) = lc at *
    go_enter Tryz.func144, Tryz.ntmps144
    go_wp2_with fail
    refine (HQ.out).mono ?_
    rintro e w1 ⟨rfl, rfl⟩
    go_wp2_with fail
    refine (HL1.out _ (grown_reflX _ _)).mono ?_
    rintro e w1 ⟨rfl, hg⟩
    have K1 := Lib.hid hg
    clear hg
    go_wp2_with fail
    go_ret3
    exact ⟨rfl, K1.out⟩
  rw [if_neg q39]
  have t39 : ((c.toNat : Int) == 39) = false := beq_eq_false_iff_ne.2 (by omega)
  by_cases q45 : c.toNat = 45
  · rw [if_pos q45]
    have t45 : ((c.toNat : Int) == 45) = true := beq_iff_eq.2 (by omega)
    obtain ⟨N, hN⟩ : ∃ N, N = 1 + runL partB r := ⟨_, rfl⟩
    have HL1 := Lib.hid (HL.out N (by omega))
    rw [← hN] at ⊢
    have j0 : (0 : Int) ≤ N := by omega
    have j1 : (N : Int) ≤ s.size := by omega
    generalize runL partB r = k at *
    have k0 : (0 : Int) ≤ k := by omega
    have k1 : (k : Int) ≤ 1510 := by omega
    have hw : (1 : Int) + (k : Int) = (N : Int) := by omega
    clear hN hq hr1 hr2 hlen q39 q45
    generalize litC ((c :: r).take N) = lc at *
    go_enter Tryz.func144, Tryz.ntmps144
    go_wp2_with fail
    refine (HR1.out).mono ?_
    rintro e w1 ⟨rfl, rfl⟩
    go_wp2_with fail
    refine (HL1.out _ (grown_reflX _ _)).mono ?_
    rintro e w1 ⟨rfl, hg⟩
    have K1 := Lib.hid hg
    clear hg
    go_wp2_with fail
    go_ret3
    exact ⟨rfl, K1.out⟩
  rw [if_neg q45]
  have t45 : ((c.toNat : Int) == 45) = false := beq_eq_false_iff_ne.2 (by omega)
  clear q39 q45
  generalize hN : runL partB (c :: r) = N at *
  have j0 : (0 : Int) ≤ N := by omega
  have j1 : (N : Int) ≤ s.size := by omega
  cases hd : digB c
  · rw [hd] at HD
    simp only [Bool.false_eq_true, if_false]
    cases hp : partB c
    · rw [hp] at HPt
      simp only [Bool.false_eq_true, if_false]
      have HSc : Hid (FirstIs n g m l (if signN (c :: r) = 0 then (4, 0, 10) else (4, signN (c :: r), 0)) w = FirstIs n g m l (4, signN (c :: r), sigC s) w) := Lib.hid (by
        unfold sigC
        rw [Hl.out]
        split
        · rename_i h; rw [h]
        · rfl)
      rw [HSc.out]
      clear hd hp hN hq hr1 hr2 hlen
      generalize signN (c :: r) = sg at *
      generalize sigC s = sc at *
      go_enter Tryz.func144, Tryz.ntmps144
      go_wp2_with fail
      refine (HD.out).mono ?_
      rintro e w1 ⟨rfl, rfl⟩
      go_wp2_with fail
      refine (HPt.out).mono ?_
      rintro e w1 ⟨rfl, rfl⟩
      go_wp2_with fail
      refine (HSg.out).mono ?_
      rintro e w1 ⟨rfl, hg⟩
      have K1 := Lib.hid hg
      clear hg
      go_wp2_with fail
      go_ret3
      exact ⟨rfl, K1.out⟩
    · rw [hp] at HPt
      simp only [if_true]
      have HSc : Hid (FirstIs n g m l (if wordB ((c :: r).take N) then (5, N, 0) else if nameL ((c :: r).take N) then (1, N, 0) else (0, N, 10)) w = FirstIs n g m l ((namC (s.extract 0 N)).1, N, (namC (s.extract 0 N)).2) w) := Lib.hid (by
        unfold namC
        rw [extract_front, Hl.out, show nameB (s.extract 0 N) = nameL ((c :: r).take N) from by unfold nameL; rw [← Hl.out, ← extract_front]]
        split
        · rfl
        · split <;> rfl)
      rw [HSc.out]
      have HN1 := Lib.hid (HN.out N)
      clear hd hp hN hq hr1 hr2 hlen
      generalize (namC (s.extract 0 N)).1 = na at *
      generalize (namC (s.extract 0 N)).2 = nb at *
      go_enter Tryz.func144, Tryz.ntmps144
      go_wp2_with fail
      refine (HD.out).mono ?_
      rintro e w1 ⟨rfl, rfl⟩
      go_wp2_with fail
      refine (HPt.out).mono ?_
      rintro e w1 ⟨rfl, rfl⟩
      go_wp2_with fail
      refine (HR.out).mono ?_
      rintro e w1 ⟨rfl, rfl⟩
      go_wp2_with fail
      refine (HN1.out).mono ?_
      rintro e w1 ⟨rfl, hg⟩
      have K1 := Lib.hid hg
      clear hg
      go_wp2_with fail
      go_ret3
      exact ⟨rfl, K1.out⟩
  · rw [hd] at HD
    simp only [if_true]
    have HL1 := Lib.hid (HL.out N (by omega))
    clear hd hN hq hr1 hr2 hlen
    generalize litC ((c :: r).take N) = lc at *
    go_enter Tryz.func144, Tryz.ntmps144
    go_wp2_with fail
    refine (HD.out).mono ?_
    rintro e w1 ⟨rfl, rfl⟩
    go_wp2_with fail
    refine (HR.out).mono ?_
    rintro e w1 ⟨rfl, rfl⟩
    go_wp2_with fail
    refine (HL1.out _ (grown_reflX _ _)).mono ?_
    rintro e w1 ⟨rfl, hg⟩
    have K1 := Lib.hid hg
    clear hg
    go_wp2_with fail
    go_ret3
    exact ⟨rfl, K1.out⟩
end Go.Proofs.YtppigamibgefaaaGreatDoor
namespace Go.Proofs.YtppigamibgefaaaGreatDoor
open Go.RowKit

/-- A row as a slice. -/
structure Rw where
  a : Ptr
  cap : Nat
  l : List Vl
instance : Inhabited Rw := ⟨⟨none, 0, []⟩⟩
def Rw.v (x : Rw) : Value := .slice x.a x.l.length x.cap
theorem own_only {w w' : World} {B : Nat} {e : TypeId} {size n : Nat} {v : Value} {xs : List Value} {M : Nat → Prop} (h : w.ownsRow B e size v n xs) (o : Only M w w') (hM : ∀ g, v.ownBlock = some g → ¬ M g) : w'.ownsRow B e size v n xs := by
  refine ⟨h.1, ?_⟩
  rcases h.2 with hn | ⟨g, cap, cur, rfl, hb, hgg, rest⟩
  · exact .inl hn
  · exact .inr ⟨g, cap, cur, rfl, hb, (o.block g (lt_of_block hgg) (hM g rfl)).trans hgg, rest⟩
/-- Where rows that have been made lie. -/
def Sr (w : World) (pp : Nat) (v vo : Value) (b : Nat) : Prop := w.heap.size ≤ b ∧ b ≠ pp ∧ v.ownBlock ≠ some b ∧ vo.ownBlock ≠ some b
end Go.Proofs.YtppigamibgefaaaGreatDoor
