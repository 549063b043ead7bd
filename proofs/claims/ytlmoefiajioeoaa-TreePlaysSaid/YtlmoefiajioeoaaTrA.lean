/- Layer 7's fixed fact. -/
import Derived.Test.YtlmoefiajioeoaaTrH
namespace Go.Proofs.Ytlmoefiajioeoaa
open Go.RowKit

theorem row1_at (w : World) (T : TypeId) (g : Nat) (x : Vl) (hx : x.s.size ≤ maxLen) (hg : g = w.heap.size) : RowAt (w.alloc (.cells #[.int .i64 x.k, .int .i64 x.n, .string x.s] T)) (some ⟨g, 0, none⟩) [x] := by
  subst hg
  have e := heap_alloc_new w (.cells #[.int .i64 x.k, .int .i64 x.n, .string x.s] T)
  refine ⟨by simp, by simpa using hx, .inr ⟨w.heap.size, 0, rfl, by simp, fun i hi => ?_⟩⟩
  obtain rfl : i = 0 := by simpa using hi
  exact ⟨cell_of_row _ _ _ _ _ _ e, cell_of_row _ _ _ _ _ _ e, cell_of_row _ _ _ _ _ _ e⟩
/-- An int as a value of a row. -/
def viV (n : Int) : Vl := ⟨2, n, ⟨#[]⟩⟩
abbrev cI (n : Int) : Obj := .cells #[.int .i64 2, .int .i64 n, .string ⟨#[]⟩] 36
abbrev Any : Nat → Prop := fun _ => True
theorem put2_any (t : Tre) (p : Ptr) (n a : Int) (w : World) (ht : TrAt Any w t p) (hn : t.n ≤ 1000000000) :
    Makes 27 #[.pointer p, .slice (some ⟨w.heap.size + 1, 0, none⟩) 1 1, .slice (some ⟨w.heap.size + 1 + 1 + 1, 0, none⟩) 1 1] ((((w.alloc (cI n)).alloc (cI n)).alloc (cI a)).alloc (cI a)) (fun W q => TrAt Any W (Tr.put rowsOrd [viV n] [viV a] t) q) := by
  have s1 : (w.alloc (cI n)).heap.size = w.heap.size + 1 := by simp
  have g1 := World.grownBy_alloc w (cI n) none
  generalize w.alloc (cI n) = w1 at *
  have s2 : (w1.alloc (cI n)).heap.size = w.heap.size + 1 + 1 := by simp [s1]
  have g2 := World.grownBy_alloc w1 (cI n) none
  have r2 := row1_at w1 36 (w.heap.size + 1) (viV n) (by show (0 : Nat) ≤ maxLen; exact Nat.zero_le _) s1.symm
  have r2' : RowAt (w1.alloc (cI n)) (some ⟨w.heap.size + 1, 0, none⟩) [viV n] := r2
  clear r2
  generalize w1.alloc (cI n) = w2 at *
  have s3 : (w2.alloc (cI a)).heap.size = w.heap.size + 1 + 1 + 1 := by simp [s2]
  have g3 := World.grownBy_alloc w2 (cI a) none
  generalize w2.alloc (cI a) = w3 at *
  have g4 := World.grownBy_alloc w3 (cI a) none
  have r4 : RowAt (w3.alloc (cI a)) (some ⟨w.heap.size + 1 + 1 + 1, 0, none⟩) [viV a] := row1_at w3 36 (w.heap.size + 1 + 1 + 1) (viV a) (by show (0 : Nat) ≤ maxLen; exact Nat.zero_le _) s3.symm
  exact Put_any Any t p _ _ 1 1 [viV n] [viV a] _ (fun _ _ => trivial) (ht.keep (.of (((g1.trans g2).trans g3).trans g4))) (r2'.keep (below_grownT (g3.trans g4))) r4 (by simp) (by simp) hn
def T71 : Tre := Tr.put rowsOrd [viV 2] [viV (-2)] .nil
def T72 : Tre := Tr.put rowsOrd [viV 1] [viV (-1)] T71
def T73 : Tre := Tr.put rowsOrd [viV 3] [viV (-3)] T72
def T7 (k : Nat) : Tre := if k = 0 then .nil else if k = 1 then T71 else if k = 2 then T72 else T73
theorem T73_is : T73 = .node (.node .nil [viV 1] [viV (-1)] .nil) [viV 2] [viV (-2)] (.node .nil [viV 3] [viV (-3)] .nil) := by
  have h12 : rowsOrd [viV 1] [viV 2] = -1 := by decide +kernel
  have h32 : rowsOrd [viV 3] [viV 2] = 1 := by decide +kernel
  simp [T73, T72, T71, Tr.put, h12, h32, Tr.bal, Tr.h]
theorem T7_n (k : Nat) : (T7 k).n ≤ 1000 := by
  have h1 := Tr.put_n rowsOrd [viV 2] [viV (-2)] .nil
  have h2 := Tr.put_n rowsOrd [viV 1] [viV (-1)] T71
  have h3 := Tr.put_n rowsOrd [viV 3] [viV (-3)] T72
  change T71.n ≤ _ at h1
  change T72.n ≤ _ at h2
  change T73.n ≤ _ at h3
  simp only [Tr.n] at h1
  unfold T7
  split
  · simp [Tr.n]
  · split
    · omega
    · split <;> omega
theorem idx7 (k : Nat) (hk : k < 3) (w : World) : (Instr.index 67 (.agg #[.int .i64 2, .int .i64 1, .int .i64 3]) (.int .i64 (k : Nat))).run Try.prog w = .ok (.int .i64 (if k = 0 then 2 else if k = 1 then 1 else 3)) w := by
  obtain rfl | rfl | rfl : k = 0 ∨ k = 1 ∨ k = 2 := by omega
  · kernel_rfl
  · kernel_rfl
  · kernel_rfl
theorem T73_rows : T73.toL.map Prod.snd = [[viV (-1)], [viV (-2)], [viV (-3)]] := by rw [T73_is]; rfl
theorem T73_h : T73.h = 2 := by rw [T73_is]; rfl
theorem T73_sorted : Tr.Sorted rowsOrd T73.toL := by
  have h12 : rowsOrd [viV 1] [viV 2] = -1 := by decide +kernel
  have h13 : rowsOrd [viV 1] [viV 3] = -1 := by decide +kernel
  have h23 : rowsOrd [viV 2] [viV 3] = -1 := by decide +kernel
  rw [T73_is]
  simp [Tr.toL, Tr.Sorted, h12, h13, h23]
set_option maxRecDepth 100000 in
set_option maxHeartbeats 6400000 in
theorem awake7_any (w : World) : Calls Try.prog 9 #[] w fun e w' => e = .returned (.bool true) ∧ w.grownBy w' none := by
  go_enter Try.func9, Try.ntmps9
  go_wp2_with fail
  go_loopw [1, 6] (fun s i wr => ∃ (p : Ptr) (k : Nat), s = .pointer p ∧ i = .int .i64 k ∧ k ≤ 3 ∧ Hid (TrAt Any wr (T7 k) p ∧ w.grownBy wr none)) (fun _ i _ => 3 - (intOf i).toNat)
  case atStart => exact ⟨none, 0, rfl, rfl, by omega, Lib.hid ⟨(show TrAt Any w .nil none from rfl), grown_reflT _ _⟩⟩
  case round =>
    obtain ⟨p, k, rfl, rfl, hk, K⟩ := hrel
    by_cases hlt : k < 3
    · obtain ⟨n, hn⟩ : ∃ n : Int, n = if k = 0 then 2 else if k = 1 then 1 else 3 := ⟨_, rfl⟩
      have hx := idx7 k hlt
      have hT : T7 (k + 1) = Tr.put rowsOrd [viV n] [viV (-n)] (T7 k) := by
        obtain rfl | rfl | rfl : k = 0 ∨ k = 1 ∨ k = 2 := by omega
        · rw [hn]; rfl
        · rw [hn]; rfl
        · rw [hn]; rfl
      have hnb : 1 ≤ n ∧ n ≤ 3 := by rw [hn]; split; omega; split <;> omega
      rw [← hn] at hx
      have HT := Lib.hid hT
      have hw : IntKind.i64.wrap (-n) = -n := by rw [IntKind.wrap_i64]; omega
      have hw2 : wrap64 (-n) = -n := by unfold wrap64; omega
      have HP := Lib.hid (Makes.calls (put2_any (T7 k) p n (-n) wr K.out.1 (Nat.le_trans (T7_n k) (by omega))))
      clear hT hn
      go_wp2_with (go_at_call 28; refine (refInt_any _ _).mono ?_; rintro e w2 ⟨rfl, rfl⟩; unfold vi)
      refine HP.out.mono ?_
      rintro e w2 ⟨⟨q, rfl, hq⟩, hg2⟩
      have D := Lib.hid (And.intro hq hg2)
      clear hq hg2 hx hw hw2 hnb
      go_wp2_with fail
      go_roundw
      case rel => exact ⟨q, k + 1, rfl, by go_num, by omega, Lib.hid ⟨by rw [HT.out]; exact D.out.1, (K.out.2.trans ((((World.grownBy_alloc _ _ none).trans (World.grownBy_alloc _ _ none)).trans (World.grownBy_alloc _ _ none)).trans (World.grownBy_alloc _ _ none))).trans D.out.2⟩⟩
      case measure => simp [intOf]; omega
    · obtain rfl : k = 3 := by omega
      have ht : TrAt Any wr T73 p := K.out.1
      have HR := Lib.hid (rowsT_any Any T73 p wr ht T73_sorted (T7_n 3 |> fun h => Nat.le_trans h (by omega)))
      have HH := Lib.hid (fun W (hW : wr.grownBy W none) => T73_h ▸ height_any Any T73 p W (ht.keep (.of hW)))
      clear ht
      go_wp2_with fail
      refine HR.out.mono ?_
      rintro e w2 ⟨⟨vo, done, rfl, h1, h2, h3⟩, hg⟩
      have hl := congrArg List.length h3
      rw [List.length_map, T73_rows] at hl
      obtain ⟨x0, x1, x2, rfl⟩ : ∃ x0 x1 x2, done = [x0, x1, x2] := by
        match done, hl with
        | [x0, x1, x2], _ => exact ⟨x0, x1, x2, rfl⟩
      rw [T73_rows] at h3
      simp only [List.map_cons, List.map_nil, List.cons.injEq, and_true] at h3
      obtain ⟨e0, _, e2⟩ := h3
      obtain ⟨g, cap, rfl, _, _⟩ := World.ownsRow.form h1 (by simp)
      have hcap : 3 ≤ cap := by
        rcases h1.2 with ⟨e, _⟩ | ⟨_, _, _, e, _, _, q, _⟩
        · cases e
        · cases e; simpa using q
      have c0 := World.ownsRow.cells h1 (g := g) rfl 0 x0.v rfl
      have c2 := World.ownsRow.cells h1 (g := g) rfl 2 x2.v rfl
      rw [add_atT] at c0 c2
      have r0 := (h2 x0 (by simp)).2.2
      have r2 := (h2 x2 (by simp)).2.2
      obtain ⟨a0, cp0, l0⟩ := x0
      obtain ⟨a2, cp2, l2⟩ := x2
      simp only at e0 e2 r0 r2
      subst e0 e2
      rcases r0 with r0 | ⟨b0, off0, rfl, _, _, r0⟩
      · cases r0
      rcases r2 with r2 | ⟨b2, off2, rfl, _, _, r2⟩
      · cases r2
      have r01 := (r0 0 (by simp)).2.1
      have r21 := (r2 0 (by simp)).2.1
      simp only [Rw.v, List.length_cons, List.length_nil, Nat.zero_mul, Nat.add_zero, Nat.zero_add, List.getD_cons_zero, viV] at c0 c2 r01 r21
      have KG := Lib.hid (K.out.2.trans hg)
      have HH2 := Lib.hid (HH.out _ hg)
      clear h1 h2 r0 r2 hg hl HR HH
      simp only [List.length_cons, List.length_nil]
      go_wp2_with fail
      refine HH2.out.mono ?_
      rintro e w3 ⟨rfl, rfl⟩
      go_wp2_with fail
      go_ret
      exact ⟨rfl, KG.out⟩
end Go.Proofs.Ytlmoefiajioeoaa
