/- Bytes of a query's text: contracts of lex's blank, digit, part and run. Columns in memory; contracts of slices.IndexFunc at columns and of columnOf. The reader of queries keeps its tokens' form, and never goes back. -/
import Derived.Test.YtjaclmoobfeikaaGreatDoorZl11
import Derived.Deep.QuietTactic
import Derived.BigQuiet
import Derived.IntWalk
import Derived.Test.YtjaclmoobfeikaaGreatDoorZl12
namespace Go.Proofs.YtjaclmoobfeikaaGreatDoor
open Go.RowKit

theorem blank_any (c : Nat) (y : UInt8) (hy : y.toNat = c) (w : World) : Calls Tryz.prog 115 #[.int .u8 c] w fun e w' => e = .returned (.bool (blankB y)) ∧ w = w' := by
  unfold blankB
  rw [hy]
  clear hy
  by_cases h9 : c = 9
  · have t9 : ((c : Int) == 9) = true := beq_iff_eq.2 (by omega)
    rw [decide_eq_true h9]
    clear h9
    go_enter Tryz.func115, Tryz.ntmps115
    go_wp2_with fail
    go_ret
    exact ⟨ret_bool6 (by simp), rfl⟩
  have t9 : ((c : Int) == 9) = false := beq_eq_false_iff_ne.2 (by omega)
  rw [decide_eq_false h9]
  clear h9
  by_cases h10 : c = 10
  · have t10 : ((c : Int) == 10) = true := beq_iff_eq.2 (by omega)
    rw [decide_eq_true h10]
    clear h10
    go_enter Tryz.func115, Tryz.ntmps115
    go_wp2_with fail
    go_ret
    exact ⟨ret_bool6 (by simp), rfl⟩
  have t10 : ((c : Int) == 10) = false := beq_eq_false_iff_ne.2 (by omega)
  rw [decide_eq_false h10]
  clear h10
  by_cases h13 : c = 13
  · have t13 : ((c : Int) == 13) = true := beq_iff_eq.2 (by omega)
    rw [decide_eq_true h13]
    clear h13
    go_enter Tryz.func115, Tryz.ntmps115
    go_wp2_with fail
    go_ret
    exact ⟨ret_bool6 (by simp), rfl⟩
  have t13 : ((c : Int) == 13) = false := beq_eq_false_iff_ne.2 (by omega)
  rw [decide_eq_false h13]
  clear h13
  by_cases h32 : c = 32
  · have t32 : ((c : Int) == 32) = true := beq_iff_eq.2 (by omega)
    rw [decide_eq_true h32]
    clear h32
    go_enter Tryz.func115, Tryz.ntmps115
    go_wp2_with fail
    go_ret
    exact ⟨ret_bool6 (by simp), rfl⟩
  have t32 : ((c : Int) == 32) = false := beq_eq_false_iff_ne.2 (by omega)
  rw [decide_eq_false h32]
  clear h32
  go_enter Tryz.func115, Tryz.ntmps115
  go_wp2_with fail
  go_ret
  exact ⟨ret_bool6 (by simp), rfl⟩
theorem lexDigit_any (c : Nat) (y : UInt8) (hy : y.toNat = c) (w : World) : Calls Tryz.prog 130 #[.int .u8 c] w fun e w' => e = .returned (.bool (digB y)) ∧ w = w' := by
  unfold digB
  rw [hy]
  by_cases h1 : 48 ≤ c
  · by_cases h2 : c ≤ 57
    · have h1' : (48 : Int) ≤ c := by omega
      have h2' : (c : Int) ≤ 57 := by omega
      rw [decide_eq_true h1, decide_eq_true h2]
      clear h1 h2 hy
      go_enter Tryz.func130, Tryz.ntmps130
      go_wp2_with fail
      go_ret
      exact ⟨ret_bool6 (by simp; try omega), rfl⟩
    · have h1' : (48 : Int) ≤ c := by omega
      have h2' : (57 : Int) < c := by omega
      rw [decide_eq_true h1, decide_eq_false h2]
      clear h1 h2 hy
      go_enter Tryz.func130, Tryz.ntmps130
      go_wp2_with fail
      go_ret
      exact ⟨ret_bool6 (by simp; try omega), rfl⟩
  · have h1' : (c : Int) < 48 := by omega
    rw [decide_eq_false h1]
    clear h1 hy
    go_enter Tryz.func130, Tryz.ntmps130
    go_wp2_with fail
    go_ret
    exact ⟨ret_bool6 (by simp), rfl⟩
/-- What a byte may be, for part. -/
theorem part_cases (c : Nat) : (97 ≤ c ∧ c ≤ 122) ∨ (65 ≤ c ∧ c ≤ 90) ∨ ((48 ≤ c ∧ c ≤ 57)) ∨ c = 95 ∨ (c < 48) ∨ (57 < c ∧ c < 65) ∨ (90 < c ∧ c < 97 ∧ c ≠ 95) ∨ 122 < c := by omega
theorem part_any (c : Nat) (y : UInt8) (hy : y.toNat = c) (w : World) : Calls Tryz.prog 129 #[.int .u8 c] w fun e w' => e = .returned (.bool (partB y)) ∧ w = w' := by
  have HD := Lib.hid (lexDigit_any c y hy w)
  have HP : Hid (partB y = ((decide (97 ≤ c) && decide (c ≤ 122)) || (decide (65 ≤ c) && decide (c ≤ 90)) || (decide (48 ≤ c) && decide (c ≤ 57)) || decide (c = 95))) := Lib.hid (by
    unfold partB letB upB digB; rw [hy])
  have HB : Hid (digB y = (decide (48 ≤ c) && decide (c ≤ 57))) := Lib.hid (by unfold digB; rw [hy])
  generalize hp : partB y = p at *
  generalize hd : digB y = d at *
  clear hp hd hy
  rcases part_cases c with h | h | h | h | h | h | h | h
  · have h1 : (97 : Int) ≤ c := by omega
    have h2 : (c : Int) ≤ 122 := by omega
    have e : p = true := by rw [HP.out]; simp [h.1, h.2]
    subst e
    clear h HP HB
    go_enter Tryz.func129, Tryz.ntmps129
    go_wp2_with fail
    go_ret
    exact ⟨ret_bool6 (by first | rfl | (simp; done) | (simp; omega)), rfl⟩
  · have h1 : (c : Int) < 97 := by omega
    have h2 : (65 : Int) ≤ c := by omega
    have h3 : (c : Int) ≤ 90 := by omega
    have e : p = true := by rw [HP.out]; simp [h.1, h.2]
    subst e
    clear h HP HB
    go_enter Tryz.func129, Tryz.ntmps129
    go_wp2_with fail
    go_ret
    exact ⟨ret_bool6 (by first | rfl | (simp; done) | (simp; omega)), rfl⟩
  · have h1 : (c : Int) < 97 := by omega
    have h2 : (c : Int) < 65 := by omega
    have e : p = true := by rw [HP.out]; simp [h.1, h.2]
    have e2 : d = true := by rw [HB.out]; simp [h.1, h.2]
    subst e e2
    clear h HP HB
    go_enter Tryz.func129, Tryz.ntmps129
    go_wp2_with fail
    refine (HD.out).mono ?_
    rintro e w1 ⟨rfl, rfl⟩
    go_wp2_with fail
    go_ret
    exact ⟨ret_bool6 (by first | rfl | (simp; done) | (simp; omega)), rfl⟩
  · have h1 : (c : Int) < 97 := by omega
    have h2 : (65 : Int) ≤ c := by omega
    have h3 : (90 : Int) < c := by omega
    have h4 : ((c : Int) == 95) = true := beq_iff_eq.2 (by omega)
    have e : p = true := by rw [HP.out]; simp [h]
    have e2 : d = false := by rw [HB.out]; simp [h]
    subst e e2
    clear h HP HB
    go_enter Tryz.func129, Tryz.ntmps129
    go_wp2_with fail
    refine (HD.out).mono ?_
    rintro e w1 ⟨rfl, rfl⟩
    go_wp2_with fail
    go_ret
    exact ⟨ret_bool6 (by first | rfl | (simp; done) | (simp; omega)), rfl⟩
  · have h1 : (c : Int) < 97 := by omega
    have h2 : (c : Int) < 65 := by omega
    have h4 : ((c : Int) == 95) = false := beq_eq_false_iff_ne.2 (by omega)
    have e : p = false := by rw [HP.out]; simp; omega
    have e2 : d = false := by rw [HB.out]; simp; omega
    subst e e2
    clear h HP HB
    go_enter Tryz.func129, Tryz.ntmps129
    go_wp2_with fail
    refine (HD.out).mono ?_
    rintro e w1 ⟨rfl, rfl⟩
    go_wp2_with fail
    go_ret
    exact ⟨ret_bool6 (by first | rfl | (simp; done) | (simp; omega)), rfl⟩
  · have h1 : (c : Int) < 97 := by omega
    have h2 : (c : Int) < 65 := by omega
    have h4 : ((c : Int) == 95) = false := beq_eq_false_iff_ne.2 (by omega)
    have e : p = false := by rw [HP.out]; simp; omega
    have e2 : d = false := by rw [HB.out]; simp; omega
    subst e e2
    clear h HP HB
    go_enter Tryz.func129, Tryz.ntmps129
    go_wp2_with fail
    refine (HD.out).mono ?_
    rintro e w1 ⟨rfl, rfl⟩
    go_wp2_with fail
    go_ret
    exact ⟨ret_bool6 (by first | rfl | (simp; done) | (simp; omega)), rfl⟩
  · have h1 : (c : Int) < 97 := by omega
    have h2 : (65 : Int) ≤ c := by omega
    have h3 : (90 : Int) < c := by omega
    have h4 : ((c : Int) == 95) = false := beq_eq_false_iff_ne.2 (by omega)
    have e : p = false := by rw [HP.out]; simp; omega
    have e2 : d = false := by rw [HB.out]; simp; omega
    subst e e2
    clear h HP HB
    go_enter Tryz.func129, Tryz.ntmps129
    go_wp2_with fail
    refine (HD.out).mono ?_
    rintro e w1 ⟨rfl, rfl⟩
    go_wp2_with fail
    go_ret
    exact ⟨ret_bool6 (by first | rfl | (simp; done) | (simp; omega)), rfl⟩
  · have h1 : (97 : Int) ≤ c := by omega
    have h2 : (122 : Int) < c := by omega
    have h5 : (65 : Int) ≤ c := by omega
    have h3 : (90 : Int) < c := by omega
    have h4 : ((c : Int) == 95) = false := beq_eq_false_iff_ne.2 (by omega)
    have e : p = false := by rw [HP.out]; simp; omega
    have e2 : d = false := by rw [HB.out]; simp; omega
    subst e e2
    clear h HP HB
    go_enter Tryz.func129, Tryz.ntmps129
    go_wp2_with fail
    refine (HD.out).mono ?_
    rintro e w1 ⟨rfl, rfl⟩
    go_wp2_with fail
    go_ret
    exact ⟨ret_bool6 (by first | rfl | (simp; done) | (simp; omega)), rfl⟩

theorem runL_drop (f : UInt8 → Bool) : ∀ (l : List UInt8) (k : Nat), (∀ i, i < k → f (l.getD i 0) = true) → k ≤ l.length → runL f l = k + runL f (l.drop k)
  | l, 0, _, _ => by simp
  | [], k + 1, _, h => by simp at h
  | c :: r, k + 1, h, hk => by
    have h0 := h 0 (by omega)
    simp at h0
    have := runL_drop f r k (fun i hi => by have := h (i + 1) (by omega); simpa using this) (by simpa using hk)
    simp [runL, h0, this]
    omega
/-- run, of blank. -/
theorem run_blank (s : ByteArray) (w : World) (hs : s.size ≤ 1510) :
    Calls Tryz.prog 114 #[.string s, .func (.func 115) #[] #[]] w fun e w' => e = .returned (.int .i64 (runL blankB s.data.toList)) ∧ w = w' := by
  have hL : s.data.toList.length = s.size := by rw [Array.length_toList]; rfl
  have HF : Hid (∀ k, k ≤ s.size → (∀ i, i < k → blankB (s.data.toList.getD i 0) = true) → (k < s.size → blankB (s.data.toList.getD k 0) = false) → runL blankB s.data.toList = k) := Lib.hid fun k hk h1 h2 => by
    rw [runL_drop _ _ k h1 (by omega)]
    by_cases e : k < s.size
    · have := h2 e
      rw [List.drop_eq_getElem_cons (by omega)]
      have e2 : s.data.toList[k]'(by omega) = s.data.toList.getD k 0 := by
        rw [List.getD, List.getElem?_eq_getElem (by omega)]; rfl
      rw [e2, runL, this]
      simp
    · rw [List.drop_of_length_le (by omega)]; simp [runL]
  clear hL
  generalize runL blankB s.data.toList = res at *
  go_enter Tryz.func114, Tryz.ntmps114
  go_wp2_with fail
  go_loop [8] (fun i => ∃ (k : Nat), i = .int .i64 k ∧ k ≤ s.size ∧ Hid (∀ i, i < k → blankB (s.data.toList.getD i 0) = true)) (fun i => s.size - (intOf i).toNat)
  case atStart => exact ⟨0, rfl, by omega, Lib.hid (fun i hi => by omega)⟩
  case round =>
    obtain ⟨k, rfl, hk, U⟩ := hrel
    by_cases hlt : k < s.size
    · have hb := byte_at hlt
      have i1 : (k : Int) < s.size := by omega
      have HC := Lib.hid (blank_any _ s[k] rfl w)
      cases hf : blankB s[k]
      · have hr : res = k := HF.out k hk U.out (fun _ => by rw [hb]; exact hf)
        rw [hf] at HC
        have HR := Lib.hid hr
        clear hf hb hr
        go_wp2_with fail
        refine (HC.out).mono ?_
        rintro e w1 ⟨rfl, rfl⟩
        go_wp2_with fail
        go_ret
        exact ⟨(congrArg (fun n : Nat => Ending.returned (.int .i64 (n : Int))) HR.out).symm, rfl⟩
      · have U2 : Hid (∀ i, i < k + 1 → blankB (s.data.toList.getD i 0) = true) := Lib.hid fun i hi => by
          by_cases e : i = k
          · rw [e, hb]; exact hf
          · exact U.out i (by omega)
        rw [hf] at HC
        clear hf hb
        go_wp2_with fail
        refine (HC.out).mono ?_
        rintro e w1 ⟨rfl, rfl⟩
        go_wp2_with fail
        go_round
        case rel => exact ⟨k + 1, by go_num, by omega, U2⟩
        case measure => simp [intOf]; omega
    · obtain rfl : k = s.size := by omega
      have hr : res = s.size := HF.out _ hk U.out (fun h => by omega)
      have HR := Lib.hid hr
      clear hr
      go_wp2_with fail
      go_ret
      exact ⟨(congrArg (fun n : Nat => Ending.returned (.int .i64 (n : Int))) HR.out).symm, rfl⟩
/-- run, of part. -/
theorem run_part (s : ByteArray) (w : World) (hs : s.size ≤ 1510) :
    Calls Tryz.prog 114 #[.string s, .func (.func 129) #[] #[]] w fun e w' => e = .returned (.int .i64 (runL partB s.data.toList)) ∧ w = w' := by
  have hL : s.data.toList.length = s.size := by rw [Array.length_toList]; rfl
  have HF : Hid (∀ k, k ≤ s.size → (∀ i, i < k → partB (s.data.toList.getD i 0) = true) → (k < s.size → partB (s.data.toList.getD k 0) = false) → runL partB s.data.toList = k) := Lib.hid fun k hk h1 h2 => by
    rw [runL_drop _ _ k h1 (by omega)]
    by_cases e : k < s.size
    · have := h2 e
      rw [List.drop_eq_getElem_cons (by omega)]
      have e2 : s.data.toList[k]'(by omega) = s.data.toList.getD k 0 := by
        rw [List.getD, List.getElem?_eq_getElem (by omega)]; rfl
      rw [e2, runL, this]
      simp
    · rw [List.drop_of_length_le (by omega)]; simp [runL]
  clear hL
  generalize runL partB s.data.toList = res at *
  go_enter Tryz.func114, Tryz.ntmps114
  go_wp2_with fail
  go_loop [8] (fun i => ∃ (k : Nat), i = .int .i64 k ∧ k ≤ s.size ∧ Hid (∀ i, i < k → partB (s.data.toList.getD i 0) = true)) (fun i => s.size - (intOf i).toNat)
  case atStart => exact ⟨0, rfl, by omega, Lib.hid (fun i hi => by omega)⟩
  case round =>
    obtain ⟨k, rfl, hk, U⟩ := hrel
    by_cases hlt : k < s.size
    · have hb := byte_at hlt
      have i1 : (k : Int) < s.size := by omega
      have HC := Lib.hid (part_any _ s[k] rfl w)
      cases hf : partB s[k]
      · have hr : res = k := HF.out k hk U.out (fun _ => by rw [hb]; exact hf)
        rw [hf] at HC
        have HR := Lib.hid hr
        clear hf hb hr
        go_wp2_with fail
        refine (HC.out).mono ?_
        rintro e w1 ⟨rfl, rfl⟩
        go_wp2_with fail
        go_ret
        exact ⟨(congrArg (fun n : Nat => Ending.returned (.int .i64 (n : Int))) HR.out).symm, rfl⟩
      · have U2 : Hid (∀ i, i < k + 1 → partB (s.data.toList.getD i 0) = true) := Lib.hid fun i hi => by
          by_cases e : i = k
          · rw [e, hb]; exact hf
          · exact U.out i (by omega)
        rw [hf] at HC
        clear hf hb
        go_wp2_with fail
        refine (HC.out).mono ?_
        rintro e w1 ⟨rfl, rfl⟩
        go_wp2_with fail
        go_round
        case rel => exact ⟨k + 1, by go_num, by omega, U2⟩
        case measure => simp [intOf]; omega
    · obtain rfl : k = s.size := by omega
      have hr : res = s.size := HF.out _ hk U.out (fun h => by omega)
      have HR := Lib.hid hr
      clear hr
      go_wp2_with fail
      go_ret
      exact ⟨(congrArg (fun n : Nat => Ending.returned (.int .i64 (n : Int))) HR.out).symm, rfl⟩
end Go.Proofs.YtjaclmoobfeikaaGreatDoor
namespace Go.Proofs.YtjaclmoobfeikaaGreatDoor
open Go.RowKit

/-- A column. -/
structure Cl where
  n : ByteArray
  k : Int
  b : Bool
instance : Inhabited Cl := ⟨⟨⟨#[]⟩, 0, false⟩⟩
/-- A slice of columns that lies in memory. -/
def ColsAt (B : Nat) (w : World) (a : Option Addr) (l : List Cl) : Prop :=
  l.length ≤ 9223372036854775807 ∧ (l = [] ∨ ∃ b off, a = some ⟨b, off, none⟩ ∧ b < B ∧ ∀ i, i < l.length → w.cell? ⟨b, off + i * 3, none⟩ = some (.string (l.getD i default).n) ∧ w.cell? ⟨b, off + i * 3 + 1, none⟩ = some (.int .i64 (l.getD i default).k) ∧ w.cell? ⟨b, off + i * 3 + 2, none⟩ = some (.bool (l.getD i default).b))
theorem ColsAt.keep {B : Nat} {w w' : World} {a : Option Addr} {l : List Cl} (h : ColsAt B w a l) {row : Option Nat} (hg : w.grownBy w' row) (hr : ∀ k, row = some k → B ≤ k) : ColsAt B w' a l := by
  refine ⟨h.1, h.2.imp id fun ⟨b, off, e, hlt, hc⟩ => ⟨b, off, e, hlt, fun i hi => ?_⟩⟩
  have hb : some b ≠ row := fun e => by have := hr b e.symm; omega
  exact ⟨hg.cell (hc i hi).1 hb, hg.cell (hc i hi).2.1 hb, hg.cell (hc i hi).2.2 hb⟩
theorem ColsAt.at {B : Nat} {w : World} {a : Option Addr} {l : List Cl} (h : ColsAt B w a l) {i : Nat} (hi : i < l.length) : ∃ b off, a = some ⟨b, off, none⟩ ∧ b < B ∧ w.cell? ⟨b, off + i * 3, none⟩ = some (.string (l.getD i default).n) ∧ w.cell? ⟨b, off + i * 3 + 1, none⟩ = some (.int .i64 (l.getD i default).k) ∧ w.cell? ⟨b, off + i * 3 + 2, none⟩ = some (.bool (l.getD i default).b) := by
  rcases h.2 with h | ⟨b, off, e, hlt, hc⟩
  · rw [h] at hi; simp at hi
  · exact ⟨b, off, e, hlt, hc i hi⟩
/-- The first column of a name. -/
def colIx (M : ByteArray) (l : List Cl) (k : Nat) : Prop := ∀ i, i < k → ((l.getD i default).n.toList == M.toList) = false
def IxIs (M : ByteArray) (l : List Cl) (r : Int) : Prop := (r = -1 ∧ colIx M l l.length) ∨ (∃ k : Nat, r = k ∧ k < l.length ∧ ((l.getD k default).n.toList == M.toList) = true ∧ colIx M l k)
set_option maxHeartbeats 1600000 in
theorem indexCol_any (a : Option Addr) (cap : Nat) (l : List Cl) (M : ByteArray) (g : Nat) (w : World) (h : ColsAt w.heap.size w a l) (hc : w.cell? ⟨g, 0, none⟩ = some (.string M)) :
    Calls Tryz.prog 152 #[.slice a l.length cap, .func (.func 153) #[] #[.pointer (some ⟨g, 0, none⟩)]] w fun e w' => (∃ r, e = .returned (.int .i64 r) ∧ IxIs M l r) ∧ w.grownBy w' none := by
  have H := Lib.hid h
  have HC := Lib.hid (fun (W : World) (hW : w.grownBy W none) (N : ByteArray) (k : Int) (b : Bool) => colIs_any N M k b g W (hW.cell hc (by simp)))
  have hlen := h.1
  obtain ⟨n, hn⟩ : ∃ n, n = l.length := ⟨_, rfl⟩
  have Hn := Lib.hid hn
  rw [← hn] at hlen ⊢
  clear h hc hn
  go_enter Tryz.func152, Tryz.ntmps152
  go_wp2_with fail
  go_loopw [8] (fun i wr => ∃ (k : Nat), i = .int .i64 k ∧ k ≤ n ∧ Hid (colIx M l k) ∧ Hid (w.grownBy wr none)) (fun i _ => n - (intOf i).toNat)
  case atStart => exact ⟨0, rfl, by omega, Lib.hid (fun i hi => by omega), Lib.hid (grown_refl6 _ _)⟩
  case round =>
    obtain ⟨k, rfl, hk, E, K⟩ := hrel
    by_cases hlt : k < n
    · obtain ⟨b, off, rfl, _, c0, c1, c2⟩ := (H.out.keep K.out (by simp)).at (i := k) (by rw [← Hn.out]; exact hlt)
      obtain ⟨x, hx⟩ : ∃ x, x = l.getD k default := ⟨_, rfl⟩
      rw [← hx] at c0 c1 c2
      have Hx := Lib.hid hx
      obtain ⟨xn, xk, xb⟩ := x
      simp only at c0 c1 c2
      clear hx
      have HC1 := Lib.hid (HC.out wr K.out xn xk xb)
      by_cases hm : (xn.toList == M.toList) = true
      · have HM := Lib.hid (show ((l.getD k default).n.toList == M.toList) = true by rw [← Hx.out]; exact hm)
        rw [hm] at HC1
        clear hm
        go_wp2_with fail
        refine HC1.out.mono ?_
        rintro e w2 ⟨rfl, hg⟩
        have K2 := Lib.hid (K.out.trans hg)
        clear hg
        go_wp2_with fail
        go_ret
        exact ⟨⟨k, rfl, .inr ⟨k, rfl, by rw [← Hn.out]; exact hlt, HM.out, E.out⟩⟩, K2.out⟩
      · have hm' : (xn.toList == M.toList) = false := by simpa using hm
        have E2 : Hid (colIx M l (k + 1)) := Lib.hid fun i hi => by
          by_cases e : i = k
          · rw [e, ← Hx.out]; exact hm'
          · exact E.out i (by omega)
        rw [hm'] at HC1
        clear hm hm'
        go_wp2_with fail
        refine HC1.out.mono ?_
        rintro e w2 ⟨rfl, hg⟩
        have K2 := Lib.hid (K.out.trans hg)
        clear hg
        go_wp2_with fail
        go_roundw
        case rel => exact ⟨k + 1, by go_num, by omega, E2, K2⟩
        case measure => simp [intOf]; omega
    · obtain rfl : k = n := by omega
      go_wp2_with fail
      go_ret
      exact ⟨⟨-1, rfl, .inl ⟨rfl, by rw [← Hn.out]; exact E.out⟩⟩, K.out⟩
set_option maxHeartbeats 1600000 in
theorem columnOf_any (a : Option Addr) (cap : Nat) (l : List Cl) (M : ByteArray) (w : World) (h : ColsAt w.heap.size w a l) :
    Calls Tryz.prog 139 #[.slice a l.length cap, .string M] w fun e w' => (∃ r, e = .returned (.int .i64 r) ∧ IxIs M l r) ∧ w.grownBy w' none := by
  have hb : ∀ T, (w.alloc (.cells #[.string M] T)).cell? ⟨w.heap.size, 0, none⟩ = some (.string M) := fun T => cell_of_row _ _ 0 _ _ _ (heap_alloc_new w _)
  have HI := Lib.hid (fun T => indexCol_any a cap l M w.heap.size (w.alloc (.cells #[.string M] T)) ⟨h.1, (h.keep (World.grownBy_alloc w _ none) (by simp)).2.imp id fun ⟨b, off, e, hlt, hc⟩ => ⟨b, off, e, by simp; omega, hc⟩⟩ (hb T))
  generalize l.length = n at *
  clear h
  go_enter Tryz.func139, Tryz.ntmps139
  go_wp2_with fail
  refine (HI.out _).mono ?_
  rintro e w2 ⟨⟨r, rfl, hr⟩, hg⟩
  have HR := Lib.hid hr
  have K2 := Lib.hid ((World.grownBy_alloc w _ none).trans hg)
  clear hg hr
  go_wp2_with fail
  go_ret
  exact ⟨⟨r, rfl, HR.out⟩, K2.out⟩
end Go.Proofs.YtjaclmoobfeikaaGreatDoor
namespace Go.Proofs.YtjaclmoobfeikaaGreatDoor

theorem RS.ok.hd {s : RS} (h : s.ok) : ∃ r, s.rest = s.hd :: r := by
  obtain ⟨f, l, e, _⟩ := h
  cases f with
  | nil => exact ⟨[], by simp [RS.hd, e]⟩
  | cons x f => exact ⟨f ++ [l], by simp [RS.hd, e]⟩
theorem RS.ok.pos {s : RS} (h : s.ok) : 1 ≤ s.rest.length := by
  obtain ⟨r, e⟩ := h.hd
  rw [e]; simp
/-- What comes isn't the end. -/
def RS.more (s : RS) : Prop := s.hd.kind ≠ 0 ∨ s.hd.text ≠ ⟨#[]⟩
theorem RS.ok.pass {s : RS} (h : s.ok) (hm : s.more) : s.pass.ok ∧ s.pass.rest.length + 1 = s.rest.length := by
  obtain ⟨f, l, e, hk, ht, hf⟩ := h
  cases f with
  | nil =>
    exfalso
    have : s.hd = l := by simp [RS.hd, e]
    rcases hm with hm | hm
    · rw [this] at hm; exact hm hk
    · rw [this] at hm; exact hm ht
  | cons x f =>
    refine ⟨⟨f, l, by simp [RS.pass, e], hk, ht, fun t h => hf t (by simp [h])⟩, by simp [RS.pass, e]⟩
theorem RS.ok.long {s : RS} (h : s.ok) (hm : s.more) : 2 ≤ s.rest.length := by
  have h1 := (h.pass hm).2
  have h2 := (h.pass hm).1.pos
  omega
theorem RS.ok.wrong {s : RS} (h : s.ok) (c : Nat) : (s.wrong c).ok ∧ (s.wrong c).rest.length = 1 := by
  obtain ⟨f, l, e, hk, ht, _⟩ := h
  refine ⟨⟨[], l, by simp [RS.wrong, e], hk, ht, by simp⟩, by simp [RS.wrong, e]⟩
/-- Behind s: of the form, and no more tokens than there. -/
def RS.next (s s' : RS) : Prop := s'.ok ∧ s'.rest.length ≤ s.rest.length
theorem RS.ok.self {s : RS} (h : s.ok) : s.next s := ⟨h, Nat.le_refl _⟩
theorem RS.next.trans {s t u : RS} (h : s.next t) (h' : t.next u) : s.next u := ⟨h'.1, Nat.le_trans h'.2 h.2⟩
theorem RS.ok.nwrong {s : RS} (h : s.ok) (c : Nat) : s.next (s.wrong c) := ⟨(h.wrong c).1, by rw [(h.wrong c).2]; exact h.pos⟩
theorem RS.ok.npass {s : RS} (h : s.ok) (hm : s.more) : s.next s.pass := ⟨(h.pass hm).1, by have := (h.pass hm).2; omega⟩
theorem RS.more_of {s : RS} {t : ByteArray} (ht : t ≠ ⟨#[]⟩) (h : s.comes t = true) : s.more := by
  right
  rw [of_decide_eq_true h]; exact ht
theorem RS.ok.nneed {s : RS} (h : s.ok) {t : ByteArray} (ht : t ≠ ⟨#[]⟩) : s.next (s.need t) := by
  unfold RS.need
  split
  · rename_i hc; exact h.npass (RS.more_of ht hc)
  · exact h.nwrong _
theorem RS.more_named {s : RS} (h : s.named = true) : s.more := by
  left
  rw [of_decide_eq_true h]; decide
theorem RS.ok.nname {s : RS} (h : s.ok) : s.next s.name.1 := by
  unfold RS.name
  split
  · rename_i hc; exact h.npass (RS.more_named hc)
  · exact h.nwrong _
theorem readC_nil : readC [] = 2 := by decide
theorem RS.more_lit {s : RS} (h : readC s.hd.text.data.toList = 0) : s.more := by
  right
  intro e
  rw [e] at h
  exact absurd (show readC [] = 0 from h) (by rw [readC_nil]; decide)
theorem RS.ok.nliteral {s : RS} (h : s.ok) : s.next s.literal.1 := by
  unfold RS.literal
  split
  · rename_i hc; exact h.npass (RS.more_lit hc)
  · exact h.nwrong _
theorem relT_nil : relT ⟨#[]⟩ = 0 := by decide
theorem RS.more_rel {s : RS} (h : ¬ relT s.hd.text = 0) : s.more := by
  right
  intro e
  rw [e] at h
  exact h relT_nil
theorem RS.ok.nrel {s : RS} (h : s.ok) : s.next s.rel.1 := by
  unfold RS.rel
  split
  · exact h.self
  · rename_i hc; exact h.npass (RS.more_rel hc)
theorem listF_next {β : Type} (most : Nat) (nx : RS → RS × β) (hn : ∀ s : RS, s.ok → s.next (nx s).1) : ∀ (f : Nat) (s : RS) (acc : List β), s.ok → s.next (listF most nx f s acc).1
  | 0, s, _, h => h.self
  | f + 1, s, acc, h => by
    rw [listF]
    split
    · exact h.nwrong _
    · have h1 := hn s h
      split
      · rename_i hc
        have h2 := h1.1.npass (RS.more_of (by decide) hc)
        exact (h1.trans h2).trans (listF_next most nx hn f _ _ h2.1)
      · exact h1
theorem listF_len {β : Type} (most : Nat) (nx : RS → RS × β) : ∀ (f : Nat) (s : RS) (acc : List β), acc.length ≤ most → (listF most nx f s acc).2.length ≤ most
  | 0, _, _, h => h
  | f + 1, s, acc, h => by
    rw [listF]
    split
    · exact h
    · split
      · exact listF_len most nx f _ _ (by simp; omega)
      · simp; omega
theorem partsF_next (word : ByteArray) (hw : word ≠ ⟨#[]⟩) (pf : RS → RS × Prd) (hn : ∀ s : RS, s.ok → s.next (pf s).1) : ∀ (f : Nat) (s : RS) (acc : List Prd), s.ok → s.next (partsF word pf f s acc).1
  | 0, s, _, h => h.self
  | f + 1, s, acc, h => by
    rw [partsF]
    split
    · rename_i hc
      have h1 := h.npass (RS.more_of hw hc)
      have h2 := h1.trans (hn _ h1.1)
      exact h2.trans (partsF_next word hw pf hn f _ _ h2.1)
    · exact h.self
theorem partsL_next (kind : Nat) (word : ByteArray) (hw : word ≠ ⟨#[]⟩) (pf : RS → RS × Prd) (hn : ∀ s : RS, s.ok → s.next (pf s).1) (s : RS) (h : s.ok) : s.next (partsL kind word pf s).1 :=
  (hn s h).trans (partsF_next word hw pf hn _ _ _ (hn s h).1)
theorem amongL_next (col : ByteArray) (pos : Nat) (s : RS) (h : s.ok) : s.next (amongL col pos s).1 := by
  unfold amongL
  split
  · rename_i hc
    have h1 := h.npass (RS.more_of (by decide) hc)
    have h2 := h1.trans (h1.1.nneed (t := bOpen) (by decide))
    have h3 := h2.trans (listF_next 12 RS.literal (fun _ h => h.nliteral) 13 _ [] h2.1)
    exact h3.trans (h3.1.nneed (by decide))
  · have h1 := h.nneed (t := bBetween) (by decide)
    have h2 := h1.trans h1.1.nliteral
    have h3 := h2.trans (h2.1.nneed (t := bAnd) (by decide))
    exact h3.trans h3.1.nliteral
theorem nameP_next (pos : Nat) (s : RS) (h : s.ok) : s.next (nameP pos s).1 := by
  have h0 := h.nname
  unfold nameP
  dsimp only
  generalize s.name.1 = u at *
  split
  · rename_i hc
    have h1 := h0.trans (h0.1.npass (RS.more_of (by decide) hc))
    split
    · rename_i hd
      have h2 := h1.trans (h1.1.npass (RS.more_of (by decide) hd))
      exact h2.trans (h2.1.nneed (by decide))
    · exact h1.trans (h1.1.nneed (by decide))
  · split
    · rename_i hc
      have h1 := h0.trans (h0.1.npass (RS.more_of (by decide) hc))
      exact h1.trans (amongL_next _ _ _ h1.1)
    · have h1 := h0.trans h0.1.nrel
      split
      · exact h1.trans (amongL_next _ _ _ h1.1)
      · split
        · exact h1.trans h1.1.nname
        · exact h1.trans h1.1.nliteral
theorem litP_next (pos : Nat) (s : RS) (h : s.ok) : s.next (litP pos s).1 := by
  have h0 := h.nliteral
  unfold litP
  dsimp only
  generalize s.literal.1 = u at *
  have h1 := h0.trans h0.1.nrel
  split
  · unfold truthP
    dsimp only
    split
    · exact h1
    · exact h1.trans (h1.1.nwrong _)
  · split
    · exact h1.trans h1.1.nname
    · exact h1.trans h1.1.nliteral
theorem oneF_next : ∀ (d : Nat) (s : RS), s.ok → s.next (oneF d s).1
  | 0, s, h => h.nwrong _
  | d + 1, s, h => by
    rw [oneF]
    split
    · rename_i hc
      have h1 := h.npass (RS.more_of (by decide) hc)
      exact h1.trans (oneF_next d _ h1.1)
    · split
      · rename_i hc
        have h1 := h.npass (RS.more_of (by decide) hc)
        have h2 := h1.trans (partsL_next 9 bOr (by decide) _ (fun s h => partsL_next 8 bAnd (by decide) _ (oneF_next d) s h) _ h1.1)
        exact h2.trans (h2.1.nneed (by decide))
      · split
        · exact nameP_next _ _ h
        · exact litP_next _ _ h
theorem allF_next (d : Nat) (s : RS) (h : s.ok) : s.next (allF d s).1 := partsL_next 8 bAnd (by decide) _ (oneF_next d) s h
theorem columnL_next (s : RS) (h : s.ok) : s.next (columnL s).1 := h.nname
theorem aggT_nil : aggT ⟨#[]⟩ = 0 := by decide
theorem RS.more_agg {s : RS} (h : ¬ aggT s.hd.text = 0) : s.more := by
  right
  intro e
  rw [e] at h
  exact h aggT_nil
theorem itemL_next (s : RS) (h : s.ok) : s.next (itemL s).1 := by
  unfold itemL
  split
  · exact columnL_next s h
  · rename_i hc
    have h1 := h.npass (RS.more_agg hc)
    have h2 := h1.trans (h1.1.nneed (t := bOpen) (by decide))
    dsimp only
    split
    · rename_i hd
      have h3 := h2.trans (h2.1.npass (RS.more_of (by decide) hd.2))
      exact h3.trans (h3.1.nneed (by decide))
    · have h3 := h2.trans h2.1.nname
      exact h3.trans (h3.1.nneed (by decide))
theorem itemsQ_next (s : RS) (h : s.ok) : s.next (itemsQ s).1 := by
  unfold itemsQ
  split
  · rename_i hc; exact h.npass (RS.more_of (by decide) hc)
  · exact listF_next 8 itemL itemL_next 9 s [] h
end Go.Proofs.YtjaclmoobfeikaaGreatDoor
