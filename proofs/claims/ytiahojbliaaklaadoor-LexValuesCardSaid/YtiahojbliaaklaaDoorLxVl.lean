/- The law LexValues, walked: true at any value. -/
import Derived.Test.YtiahojbliaaklaaDoorLxVm
import Derived.Test.YtiahojbliaaklaaDoorRefAll
namespace Go.Proofs.YtiahojbliaaklaaDoor
open Go.RowKit

theorem textL_lenX {k n : Int} {s : ByteArray} (hg : goodB k n s = true) (hn : inI n = true) : (textL k n s).length ≤ 1000 := by
  rcases good_kinds hg with ⟨rfl, rfl, hs⟩ | ⟨rfl, h01, hs⟩ | ⟨rfl, hs⟩ | ⟨rfl, rfl, hs⟩
  · simp [textL]
  · rcases h01 with rfl | rfl <;> simp [textL]
  · rw [inI_iff] at hn
    have e : textL 2 n s = Lib.itoa n := rfl
    rw [e]
    unfold Lib.itoa
    split
    · have := digits_len 19 n.natAbs (by omega)
      rw [List.length_cons]; omega
    · have := digits_len 19 n.toNat (by omega)
      omega
  · have e : textL 3 0 s = 39 :: (qs s.data.toList ++ [39]) := rfl
    have h1 := qs_len s.data.toList
    have h2 := size_list (s := s) rfl
    rw [e, List.length_cons, List.length_append, List.length_singleton]
    omega
theorem box3X (w : World) (v0 v1 v2 : Value) (T : TypeId) : (w.alloc (.cells #[v0, v1, v2] T)).cell? ⟨w.heap.size, 0, none⟩ = some v0 ∧ (w.alloc (.cells #[v0, v1, v2] T)).cell? ⟨w.heap.size, 1, none⟩ = some v1 ∧ (w.alloc (.cells #[v0, v1, v2] T)).cell? ⟨w.heap.size, 2, none⟩ = some v2 :=
  ⟨cell_of_row _ _ 0 _ _ _ (heap_alloc_new _ _), cell_of_row _ _ 1 _ _ _ (heap_alloc_new _ _), cell_of_row _ _ 2 _ _ _ (heap_alloc_new _ _)⟩
theorem box3_keepX {w w' : World} {g : Nat} {v0 v1 v2 : Value} (h : w.cell? ⟨g, 0, none⟩ = some v0 ∧ w.cell? ⟨g, 1, none⟩ = some v1 ∧ w.cell? ⟨g, 2, none⟩ = some v2) (hg : w.grownBy w' none) : w'.cell? ⟨g, 0, none⟩ = some v0 ∧ w'.cell? ⟨g, 1, none⟩ = some v1 ∧ w'.cell? ⟨g, 2, none⟩ = some v2 :=
  ⟨hg.cell h.1 (by simp), hg.cell h.2.1 (by simp), hg.cell h.2.2 (by simp)⟩
set_option maxRecDepth 100000 in
set_option maxHeartbeats 3200000 in
/-- The main way: what a text says is one token. -/
theorem values_one (G : Nat) (n g m l : Addr) (k v : Int) (s : ByteArray) (kd : Nat) (w : World) (hE : LxEnv G n g m l w) (hg : goodB k v s = true) (hn : inI v = true) (hk : (k = 2 ∧ kd = 2) ∨ (k = 3 ∧ kd = 3)) (ht : lexL ⟨(textL k v s).toArray⟩ = .ok [⟨kd, ⟨(textL k v s).toArray⟩, 0⟩, ⟨0, ⟨#[]⟩, (⟨(textL k v s).toArray⟩ : ByteArray).size⟩]) :
    Calls Tryd.prog 6 #[.agg #[.int .i64 k, .int .i64 v, .string s]] w fun e w' => e = .returned (.bool true) ∧ w.grownBy w' none := by
  have HA := Lib.hid (fun W (hW : w.grownBy W none) => awake10_any G n g m l W (hE.keep hW))
  have HG := Lib.hid (fun W => refGood_any k v s W)
  have HT := Lib.hid (fun W => refText_any k v s W hg hn)
  have HL := Lib.hid (fun W (hW : w.grownBy W none) => Lex_ok G n g m l _ W (hE.keep hW) _ ht)
  rw [hg] at HG
  clear hE ht
  generalize (⟨(textL k v s).toArray⟩ : ByteArray) = tx at *
  have B0 := Lib.hid (box3X w (.int .i64 k) (.int .i64 v) (.string s) 35)
  have K0 := Lib.hid (World.grownBy_alloc w (.cells #[.int .i64 k, .int .i64 v, .string s] 35) none)
  clear hg hn
  rcases hk with ⟨rfl, rfl⟩ | ⟨rfl, rfl⟩
  · go_enter Tryd.func6, Tryd.ntmps6
    go_wp2_with fail
    refine (HA.out _ K0.out).mono ?_
    rintro e w1 ⟨rfl, hg⟩
    have K1 := Lib.hid (K0.out.trans hg)
    have B1 := Lib.hid (box3_keepX B0.out hg)
    obtain ⟨b0, b1, b2⟩ := B1.out
    clear hg
    go_wp2_with fail
    refine (HG.out _).mono ?_
    rintro e w2 ⟨rfl, hb⟩
    have K2 := Lib.hid (K1.out.trans (grown_belowX hb none))
    have B2 := Lib.hid (box3_keepX B1.out (grown_belowX hb none))
    obtain ⟨c0, c1, c2⟩ := B2.out
    clear hb b0 b1 b2
    go_wp2_with fail
    refine (HT.out _).mono ?_
    rintro e w3 ⟨rfl, hb⟩
    have K3 := Lib.hid (K2.out.trans (grown_belowX hb none))
    have B3 := Lib.hid (box3_keepX B2.out (grown_belowX hb none))
    clear hb c0 c1 c2
    go_wp2_with fail
    refine (HL.out _ K3.out).mono ?_
    rintro e w4 ⟨vv, rfl, ho, hg⟩
    obtain ⟨gb, cb, rfl, hcb, _, _⟩ := own_at ho (by simp)
    have K4 := Lib.hid (K3.out.trans hg)
    obtain ⟨d0, d1, d2⟩ := box3_keepX B3.out hg
    have a0 := ho.cellAt 0 (by simp)
    have a1 := ho.cellAt 1 (by simp)
    have a2 := ho.cellAt 2 (by simp)
    simp [Tk.c] at a0 a1 a2 hcb
    clear hg ho
    go_wp2_with fail
    go_ret
    exact ⟨rfl, K4.out⟩
  · go_enter Tryd.func6, Tryd.ntmps6
    go_wp2_with fail
    refine (HA.out _ K0.out).mono ?_
    rintro e w1 ⟨rfl, hg⟩
    have K1 := Lib.hid (K0.out.trans hg)
    have B1 := Lib.hid (box3_keepX B0.out hg)
    obtain ⟨b0, b1, b2⟩ := B1.out
    clear hg
    go_wp2_with fail
    refine (HG.out _).mono ?_
    rintro e w2 ⟨rfl, hb⟩
    have K2 := Lib.hid (K1.out.trans (grown_belowX hb none))
    have B2 := Lib.hid (box3_keepX B1.out (grown_belowX hb none))
    obtain ⟨c0, c1, c2⟩ := B2.out
    clear hb b0 b1 b2
    go_wp2_with fail
    refine (HT.out _).mono ?_
    rintro e w3 ⟨rfl, hb⟩
    have K3 := Lib.hid (K2.out.trans (grown_belowX hb none))
    have B3 := Lib.hid (box3_keepX B2.out (grown_belowX hb none))
    clear hb c0 c1 c2
    go_wp2_with fail
    refine (HL.out _ K3.out).mono ?_
    rintro e w4 ⟨vv, rfl, ho, hg⟩
    obtain ⟨gb, cb, rfl, hcb, _, _⟩ := own_at ho (by simp)
    have K4 := Lib.hid (K3.out.trans hg)
    obtain ⟨d0, d1, d2⟩ := box3_keepX B3.out hg
    have a0 := ho.cellAt 0 (by simp)
    have a1 := ho.cellAt 1 (by simp)
    have a2 := ho.cellAt 2 (by simp)
    simp [Tk.c] at a0 a1 a2 hcb
    clear hg ho
    go_wp2_with fail
    go_ret
    exact ⟨rfl, K4.out⟩
theorem values_text (k v : Int) (s : ByteArray) (hg : goodB k v s = true) (hn : inI v = true) (hk : k = 2 ∨ k = 3) : ∃ kd : Nat, ((k = 2 ∧ kd = 2) ∨ (k = 3 ∧ kd = 3)) ∧ lexL ⟨(textL k v s).toArray⟩ = .ok [⟨kd, ⟨(textL k v s).toArray⟩, 0⟩, ⟨0, ⟨#[]⟩, (⟨(textL k v s).toArray⟩ : ByteArray).size⟩] := by
  have e : (⟨(textL k v s).toArray⟩ : ByteArray).data.toList = textL k v s := by simp
  have hsz := size_list e
  have hlen : (textL k v s).length ≤ 1000 := textL_lenX hg hn
  rcases hk with rfl | rfl
  · obtain ⟨h1, h2⟩ := tok_int v s hg hn
    exact ⟨2, .inl ⟨rfl, rfl⟩, lex_single _ 2 (by omega) (by rw [e, hsz]; exact h1) (by rw [e]; exact h2)⟩
  · have hv : v = 0 := by
      rcases good_kinds hg with ⟨h, _⟩ | ⟨h, _⟩ | ⟨h, _⟩ | ⟨_, h, _⟩
      · omega
      · omega
      · omega
      · exact h
    subst hv
    obtain ⟨h1, h2⟩ := tok_text s hg
    exact ⟨3, .inr ⟨rfl, rfl⟩, lex_single _ 3 (by omega) (by rw [e, hsz]; exact h1) (by rw [e]; exact h2)⟩
set_option maxRecDepth 100000 in
set_option maxHeartbeats 3200000 in
theorem LexValues_walk (G : Nat) (n g m l : Addr) (k v : Int) (s : ByteArray) (w : World) (hE : LxEnv G n g m l w) (hn : inI v = true) :
    Calls Tryd.prog 6 #[.agg #[.int .i64 k, .int .i64 v, .string s]] w fun e w' => e = .returned (.bool true) ∧ w.grownBy w' none := by
  by_cases hk : goodB k v s = true ∧ (k = 2 ∨ k = 3)
  · obtain ⟨kd, h1, h2⟩ := values_text k v s hk.1 hn hk.2
    exact values_one G n g m l k v s kd w hE hk.1 hn h1 h2
  · have HA := Lib.hid (fun W (hW : w.grownBy W none) => awake10_any G n g m l W (hE.keep hW))
    have HG := Lib.hid (fun W => refGood_any k v s W)
    have B0 := Lib.hid (box3X w (.int .i64 k) (.int .i64 v) (.string s) 35)
    have K0 := Lib.hid (World.grownBy_alloc w (.cells #[.int .i64 k, .int .i64 v, .string s] 35) none)
    clear hE
    generalize goodB k v s = b at *
    cases b
    · clear hk
      go_enter Tryd.func6, Tryd.ntmps6
      go_wp2_with fail
      refine (HA.out _ K0.out).mono ?_
      rintro e w1 ⟨rfl, hg⟩
      have K1 := Lib.hid (K0.out.trans hg)
      have B1 := Lib.hid (box3_keepX B0.out hg)
      obtain ⟨b0, b1, b2⟩ := B1.out
      clear hg
      go_wp2_with fail
      refine (HG.out _).mono ?_
      rintro e w2 ⟨rfl, hb⟩
      have K2 := Lib.hid (K1.out.trans (grown_belowX hb none))
      have B2 := Lib.hid (box3_keepX B1.out (grown_belowX hb none))
      obtain ⟨c0, c1, c2⟩ := B2.out
      clear hb b0 b1 b2
      go_wp2_with fail
      refine (HA.out _ K2.out).mono ?_
      rintro e w3 ⟨rfl, hg⟩
      have K3 := Lib.hid (K2.out.trans hg)
      clear hg
      go_wp2_with fail
      go_ret
      exact ⟨rfl, K3.out⟩
    · have t2 : ((k : Int) != 2) = true := by rw [bne_iff_ne]; intro h; exact hk ⟨rfl, .inl h⟩
      have t3 : ((k : Int) != 3) = true := by rw [bne_iff_ne]; intro h; exact hk ⟨rfl, .inr h⟩
      clear hk
      go_enter Tryd.func6, Tryd.ntmps6
      go_wp2_with fail
      refine (HA.out _ K0.out).mono ?_
      rintro e w1 ⟨rfl, hg⟩
      have K1 := Lib.hid (K0.out.trans hg)
      have B1 := Lib.hid (box3_keepX B0.out hg)
      obtain ⟨b0, b1, b2⟩ := B1.out
      clear hg
      go_wp2_with fail
      refine (HG.out _).mono ?_
      rintro e w2 ⟨rfl, hb⟩
      have K2 := Lib.hid (K1.out.trans (grown_belowX hb none))
      have B2 := Lib.hid (box3_keepX B1.out (grown_belowX hb none))
      obtain ⟨c0, c1, c2⟩ := B2.out
      clear hb b0 b1 b2
      go_wp2_with fail
      refine (HA.out _ K2.out).mono ?_
      rintro e w3 ⟨rfl, hg⟩
      have K3 := Lib.hid (K2.out.trans hg)
      clear hg
      go_wp2_with fail
      go_ret
      exact ⟨rfl, K3.out⟩
end Go.Proofs.YtiahojbliaaklaaDoor
