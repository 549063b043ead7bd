/- The laws' operations in memory, their catalog; commits told by what they answer. -/
import Derived.Test.YtnfpomjcofhppaaGreatDoorZb36
import Derived.Test.YtnfpomjcofhppaaGreatDoorZb37
namespace Go.Proofs.YtnfpomjcofhppaaGreatDoor
open Go.RowKit

theorem rw_two (W : World) (T : TypeId) (x y : Vl) (S : Nat → Prop) (hS : S W.heap.size) (hx : x.s.size ≤ maxLen) (hy : y.s.size ≤ maxLen) : RwS S (W.alloc (.cells #[.int .i64 x.k, .int .i64 x.n, .string x.s, .int .i64 y.k, .int .i64 y.n, .string y.s] T)) (some ⟨W.heap.size, 0, none⟩) [x, y] := by
  have e := heap_alloc_new W (.cells #[.int .i64 x.k, .int .i64 x.n, .string x.s, .int .i64 y.k, .int .i64 y.n, .string y.s] T)
  refine ⟨by simp, fun z hz => ?_, .inr ⟨W.heap.size, 0, rfl, hS, by simp, fun i hi => ?_⟩⟩
  · simp only [List.mem_cons, List.not_mem_nil, or_false] at hz
    rcases hz with rfl | rfl
    · exact hx
    · exact hy
  have hi' : i < 2 := hi
  rw [cell_of_row _ _ (0 + i * 3) _ _ _ e, cell_of_row _ _ (0 + i * 3 + 1) _ _ _ e, cell_of_row _ _ (0 + i * 3 + 2) _ _ _ e]
  obtain rfl | rfl : i = 0 ∨ i = 1 := by omega
  all_goals exact ⟨rfl, rfl, rfl⟩
theorem rw_one (W : World) (T : TypeId) (x : Vl) (S : Nat → Prop) (hS : S W.heap.size) (hx : x.s.size ≤ maxLen) : RwS S (W.alloc (.cells #[.int .i64 x.k, .int .i64 x.n, .string x.s] T)) (some ⟨W.heap.size, 0, none⟩) [x] := by
  have e := heap_alloc_new W (.cells #[.int .i64 x.k, .int .i64 x.n, .string x.s] T)
  refine ⟨by simp, fun z hz => ?_, .inr ⟨W.heap.size, 0, rfl, hS, by simp, fun i hi => ?_⟩⟩
  · simp only [List.mem_cons, List.not_mem_nil, or_false] at hz
    rw [hz]; exact hx
  have hi' : i < 1 := hi
  obtain rfl : i = 0 := by omega
  rw [cell_of_row _ _ (0 + 0 * 3) _ _ _ e, cell_of_row _ _ (0 + 0 * 3 + 1) _ _ _ e, cell_of_row _ _ (0 + 0 * 3 + 2) _ _ _ e]
  exact ⟨rfl, rfl, rfl⟩
theorem op_one {S : Nat → Prop} {W : World} (T : TypeId) (k : Int) (n : ByteArray) (a : Ptr) (c : Nat) (l : List Vl) (hr : RwS S W a l) (hc : l.length ≤ c) (hS : S W.heap.size) : OpS S (W.alloc (.cells #[.int .i64 k, .string n, .slice a l.length c] T)) (some ⟨W.heap.size, 0, none⟩) [⟨k, n, ⟨a, c, l⟩⟩] := by
  have e := heap_alloc_new W (.cells #[.int .i64 k, .string n, .slice a l.length c] T)
  refine ⟨by simp, fun o ho => ?_, .inr ⟨W.heap.size, 0, rfl, hS, by simp, fun i hi => ?_⟩⟩
  · simp only [List.mem_cons, List.not_mem_nil, or_false] at ho
    subst ho
    exact ⟨hr.keep (.of (World.grownBy_alloc W _ none)), hc⟩
  have hi' : i < 1 := hi
  obtain rfl : i = 0 := by omega
  rw [cell_of_row _ _ (0 + 0 * 3) _ _ _ e, cell_of_row _ _ (0 + 0 * 3 + 1) _ _ _ e, cell_of_row _ _ (0 + 0 * 3 + 2) _ _ _ e]
  exact ⟨rfl, rfl, rfl⟩
theorem op_two {S : Nat → Prop} {W : World} (T : TypeId) (k k' : Int) (n n' : ByteArray) (a a' : Ptr) (c c' : Nat) (l l' : List Vl) (hr : RwS S W a l) (hc : l.length ≤ c) (hr' : RwS S W a' l') (hc' : l'.length ≤ c') (hS : S W.heap.size) : OpS S (W.alloc (.cells #[.int .i64 k, .string n, .slice a l.length c, .int .i64 k', .string n', .slice a' l'.length c'] T)) (some ⟨W.heap.size, 0, none⟩) [⟨k, n, ⟨a, c, l⟩⟩, ⟨k', n', ⟨a', c', l'⟩⟩] := by
  have e := heap_alloc_new W (.cells #[.int .i64 k, .string n, .slice a l.length c, .int .i64 k', .string n', .slice a' l'.length c'] T)
  refine ⟨by simp, fun o ho => ?_, .inr ⟨W.heap.size, 0, rfl, hS, by simp, fun i hi => ?_⟩⟩
  · simp only [List.mem_cons, List.not_mem_nil, or_false] at ho
    rcases ho with rfl | rfl
    · exact ⟨hr.keep (.of (World.grownBy_alloc W _ none)), hc⟩
    · exact ⟨hr'.keep (.of (World.grownBy_alloc W _ none)), hc'⟩
  have hi' : i < 2 := hi
  rw [cell_of_row _ _ (0 + i * 3) _ _ _ e, cell_of_row _ _ (0 + i * 3 + 1) _ _ _ e, cell_of_row _ _ (0 + i * 3 + 2) _ _ _ e]
  obtain rfl | rfl : i = 0 ∨ i = 1 := by omega
  all_goals exact ⟨rfl, rfl, rfl⟩
set_option maxRecDepth 100000 in
set_option maxHeartbeats 1600000 in
theorem putX_any (n : Int) (s : ByteArray) (w : World) (hs : s.size ≤ 60) :
    Calls Tryz.prog 19 #[.int .i64 n, .string s] w fun e w' => (∃ a, e = .returned (.agg #[.int .i64 1, .string ⟨#[116]⟩, .slice a 2 2]) ∧ RwS (fun b => w.heap.size ≤ b) w' a (rX n s)) ∧ w.grownBy w' none := by
  have HI := Lib.hid (refInt_any n)
  have Hs := Lib.hid hs
  clear hs
  go_enter Tryz.func19, Tryz.ntmps19
  go_wp2_with fail
  refine (HI.out _).mono ?_
  rintro e w2 ⟨rfl, rfl⟩
  unfold vi
  go_wp2_with fail
  have e0 := heap_alloc_new w (.cells #[.int .i64 1, .string ⟨#[116]⟩, .slice (some ⟨w.heap.size + 1 + 1, 0, none⟩) 2 2] 70)
  have g0 := World.grownBy_alloc w (.cells #[.int .i64 1, .string ⟨#[116]⟩, .slice (some ⟨w.heap.size + 1 + 1, 0, none⟩) 2 2] 70) none
  have hsz : (w.alloc (.cells #[.int .i64 1, .string ⟨#[116]⟩, .slice (some ⟨w.heap.size + 1 + 1, 0, none⟩) 2 2] 70)).heap.size = w.heap.size + 1 := by simp
  generalize w.alloc (.cells #[.int .i64 1, .string ⟨#[116]⟩, .slice (some ⟨w.heap.size + 1 + 1, 0, none⟩) 2 2] 70) = wa at *
  have g1 := World.grownBy_alloc wa (.cells #[.int .i64 2, .int .i64 n, .string ⟨#[]⟩] 74) none
  have hsz2 : (wa.alloc (.cells #[.int .i64 2, .int .i64 n, .string ⟨#[]⟩] 74)).heap.size = w.heap.size + 1 + 1 := by simp [hsz]
  generalize wa.alloc (.cells #[.int .i64 2, .int .i64 n, .string ⟨#[]⟩] 74) = wb at *
  have hr := rw_two wb 74 (viV n) (txV s) (fun b => w.heap.size ≤ b) (by show w.heap.size ≤ wb.heap.size; omega) (show 0 ≤ maxLen from Nat.zero_le _) (by have := Hs.out; simp only [txV]; unfold maxLen; omega)
  have g2 := World.grownBy_alloc wb (.cells #[.int .i64 2, .int .i64 n, .string ⟨#[]⟩, .int .i64 3, .int .i64 0, .string s] 74) none
  rw [hsz2] at hr
  simp only [viV, txV] at hr
  have e1 := ((g1.trans g2).block w.heap.size (by omega) (by simp)).trans e0
  generalize wb.alloc (.cells #[.int .i64 2, .int .i64 n, .string ⟨#[]⟩, .int .i64 3, .int .i64 0, .string s] 74) = wc at *
  have z0 := cell_of_row _ _ 0 _ _ _ e1
  have z1 := cell_of_row _ _ 1 _ _ _ e1
  have z2 := cell_of_row _ _ 2 _ _ _ e1
  simp at z0 z1 z2
  exact bodyPost_ret (v := .agg #[.int .i64 1, .string ⟨#[116]⟩, .slice (some ⟨w.heap.size + 1 + 1, 0, none⟩) 2 2]) (by simp [results, Tryz.results19, go_sem, z0, z1, z2]) rfl ⟨⟨_, rfl, hr⟩, g0.trans (g1.trans g2)⟩
set_option maxRecDepth 100000 in
set_option maxHeartbeats 1600000 in
theorem catalogX_any (w : World) :
    Calls Tryz.prog 18 #[] w fun e w' => (∃ a a', e = .returned (.slice a 1 1) ∧ TbsS (fun b => w.heap.size ≤ b) w' a [exTab a']) ∧ w.grownBy w' none := by
  go_enter Tryz.func18, Tryz.ntmps18
  go_wp2_with fail
  go_ret
  have e0 := heap_alloc_new w (.cells #[.string ⟨#[97]⟩, .int .i64 2, .bool false, .string ⟨#[98]⟩, .int .i64 3, .bool true] 114)
  have g0 := World.grownBy_alloc w (.cells #[.string ⟨#[97]⟩, .int .i64 2, .bool false, .string ⟨#[98]⟩, .int .i64 3, .bool true] 114) none
  have hsz : (w.alloc (.cells #[.string ⟨#[97]⟩, .int .i64 2, .bool false, .string ⟨#[98]⟩, .int .i64 3, .bool true] 114)).heap.size = w.heap.size + 1 := by simp
  generalize w.alloc (.cells #[.string ⟨#[97]⟩, .int .i64 2, .bool false, .string ⟨#[98]⟩, .int .i64 3, .bool true] 114) = wa at *
  have e := heap_alloc_new wa (.cells #[.string ⟨#[116]⟩, .slice (some ⟨w.heap.size, 0, none⟩) 2 2, .int .i64 1] 50)
  have g1 := World.grownBy_alloc wa (.cells #[.string ⟨#[116]⟩, .slice (some ⟨w.heap.size, 0, none⟩) 2 2, .int .i64 1] 50) none
  rw [hsz] at e
  have e1 := (g1.block w.heap.size (by omega) (by simp)).trans e0
  have hlt : w.heap.size + 1 < (wa.alloc (.cells #[.string ⟨#[116]⟩, .slice (some ⟨w.heap.size, 0, none⟩) 2 2, .int .i64 1] 50)).heap.size := by simp [hsz]
  refine ⟨⟨_, some ⟨w.heap.size, 0, none⟩, rfl, by simp, fun t ht => ?_, .inr ⟨w.heap.size + 1, 0, rfl, by omega, hlt, fun i hi => ?_⟩⟩, g0.trans g1⟩
  · simp only [List.mem_cons, List.not_mem_nil, or_false] at ht
    subst ht
    refine ⟨(show exCols.length ≤ 9223372036854775807 by decide), .inr ⟨w.heap.size, 0, rfl, Nat.le_refl _, by omega, fun i hi => ?_⟩⟩
    have hi' : i < 2 := hi
    rw [cell_of_row _ _ (0 + i * 3) _ _ _ e1, cell_of_row _ _ (0 + i * 3 + 1) _ _ _ e1, cell_of_row _ _ (0 + i * 3 + 2) _ _ _ e1]
    obtain rfl | rfl : i = 0 ∨ i = 1 := by omega
    all_goals exact ⟨rfl, rfl, rfl⟩
  · have hi' : i < 1 := hi
    obtain rfl : i = 0 := by omega
    rw [cell_of_row _ _ (0 + 0 * 3) _ _ _ e, cell_of_row _ _ (0 + 0 * 3 + 1) _ _ _ e, cell_of_row _ _ (0 + 0 * 3 + 2) _ _ _ e]
    exact ⟨rfl, rfl, rfl⟩
theorem ex_right (a : Ptr) : RightG [exTab a] := by
  intro i hi
  obtain rfl : i = 0 := by simpa using hi
  refine ⟨⟨by decide, (show 1 ≤ exCols.length by decide), (show exCols.length ≤ 8 by decide)⟩, ⟨(show nameB ⟨#[116]⟩ = true by decide +kernel), (show (1 : Int) ≤ 1 by decide), (show (1 : Int) ≤ exCols.length by decide), fun j hj => ?_⟩, fun j hj => by simp at hj, fun i hi j hj => ?_⟩
  · have hj' : j < 2 := hj
    obtain rfl | rfl : j = 0 ∨ j = 1 := by omega
    · exact ⟨(show nameB ⟨#[97]⟩ = true by decide +kernel), .inr (.inl rfl), fun _ => rfl⟩
    · exact ⟨(show nameB ⟨#[98]⟩ = true by decide +kernel), .inr (.inr rfl), fun h => by simp [exTab] at h⟩
  · have hi' : i < 2 := hi
    obtain ⟨rfl, rfl⟩ : i = 1 ∧ j = 0 := by omega
    exact (show ((⟨#[97]⟩ : ByteArray).toList == (⟨#[98]⟩ : ByteArray).toList) = false by decide +kernel)
/-- What a commit that is taken leaves. -/
structure Took (B : Nat) (s s' : Stm) (ms : Ms) (w w' : World) : Prop where
  at_ : SAt B w' s'
  b : s'.b = s.b
  ts : s'.ts = s.ts
  v : s'.v = s.v + 1
  tr : s'.top.tr = ms.tr
  only : Only s.M w w'
  M : ∀ k, s'.M k → s.M k ∨ w.heap.size ≤ k
theorem commitX_ok (B G : Nat) (s : Stm) (oa : Ptr) (oc : Nat) (l : List Om) (ms : Ms) (w : World) (h : SAt B w s) (hE : ErrT G w) (ho : OpS (fun k => ¬ s.M k) w oa l) (hoc : l.length ≤ oc) (hv : s.v < 100000) (hB : B ≤ w.heap.size) (hm : commitM s.ts s.top.tr l = .ok ms) :
    Calls Tryz.prog 7 #[.pointer (some ⟨s.b, 0, none⟩), .slice oa l.length oc] w fun e w' => ∃ s' a cap, e = .returned (.tuple #[.agg #[.int .i64 (s.v + 1), .slice a ms.ch.length cap], .int .i64 0]) ∧ Took B s s' ms w w' := by
  refine (commit_any B G s oa oc l w h hE ho hoc hv hB).mono ?_
  rintro e w' (⟨c, h1, _⟩ | ⟨ms', s', a, cap, cl, h1, rfl, _, h3, _, hw⟩)
  · rw [hm] at h1; cases h1
  · rw [hm] at h1
    cases h1
    have hl : cl.length = ms.ch.length := by rw [← h3, List.length_map]
    obtain ⟨t1, _⟩ := hw.top h.kept h.few
    exact ⟨s', a, cap, by rw [hl], hw.at_, hw.b, hw.ts, hw.v, t1, hw.only, hw.M⟩
theorem commitX_err (B G : Nat) (s : Stm) (oa : Ptr) (oc : Nat) (l : List Om) (c : Int) (w : World) (h : SAt B w s) (hE : ErrT G w) (ho : OpS (fun k => ¬ s.M k) w oa l) (hoc : l.length ≤ oc) (hv : s.v < 100000) (hB : B ≤ w.heap.size) (hm : commitM s.ts s.top.tr l = .error c) :
    Calls Tryz.prog 7 #[.pointer (some ⟨s.b, 0, none⟩), .slice oa l.length oc] w fun e w' => e = .returned (.tuple #[.agg #[.int .i64 0, .slice none 0 0], .int .i64 c]) ∧ w.grownBy w' none := by
  refine (commit_any B G s oa oc l w h hE ho hoc hv hB).mono ?_
  rintro e w' (⟨c', h1, h2, h3⟩ | ⟨ms', s', a, cap, cl, h1, _⟩)
  · rw [hm] at h1; cases h1; exact ⟨h2, h3⟩
  · rw [hm] at h1; cases h1
end Go.Proofs.YtnfpomjcofhppaaGreatDoor
