/- The law WideTotal walked. -/
import Derived.Test.YtiahfdlmjfpglaaDoorAwake3
import Derived.Test.YtiahfdlmjfpglaaDoorRefOf
import Derived.Test.YtiahfdlmjfpglaaDoorWEq
import Derived.Deep.RegionHeld3
namespace Go.Proofs.YtiahfdlmjfpglaaDoor
open Go.RowKit

set_option maxRecDepth 100000 in
set_option maxHeartbeats 3200000 in
theorem totallaw_gen (a : Option Addr) (cap len : Nat) (w : World) (hm : len ≤ 9223372036854775807)
    (HW : Hid (∀ w, TabW w → Calls Tryd.prog 9 #[] w fun e w' => e = .returned (.bool true) ∧ Below w.heap.size w w')) (htab : TabW w) (hlen : 300 < len) :
    Calls Tryd.prog 6 #[.slice a len cap] w fun e w' => e = .returned (.bool true) ∧ Below w.heap.size w w' := by
  have HT := Lib.hid htab
  clear htab
  go_enter Tryd.func6, Tryd.ntmps6
  go_wp2_with fail
  refine (HW.out _ HT.out).mono ?_
  rintro e w1 ⟨rfl, hb⟩
  have T1 := Lib.hid (HT.out.keep hb)
  go_wp2_with fail
  refine (HW.out _ T1.out).mono ?_
  rintro e w2 ⟨rfl, hb2⟩
  go_wp2_with fail
  go_ret
  exact ⟨rfl, hb.trans (hb2.mono hb.size)⟩

/-- What a round of the law knows: its own row of bits. -/
def Row3 (w wr : World) (g : Nat) (cs : Array Value) : Prop := Below w.heap.size w wr ∧ w.heap.size ≤ g ∧ g < wr.heap.size ∧ wr.heap[g]? = some (.cells cs 27 (0, 0))
theorem Row3.keep {w wr w2 : World} {g : Nat} {cs : Array Value} (h : Row3 w wr g cs) (hb : Below wr.heap.size wr w2) : Row3 w w2 g cs :=
  ⟨h.1.trans (hb.mono h.1.size), h.2.1, Nat.lt_of_lt_of_le h.2.2.1 hb.size, (hb.block g h.2.2.1).trans h.2.2.2⟩
theorem Row3.set {w wr : World} {g : Nat} {cs : Array Value} (h : Row3 w wr g cs) (cs' : Array Value) : Row3 w (wr.setRow g cs') g cs' :=
  ⟨below_setRow h.1 h.2.1, h.2.1, by simpa using h.2.2.1, setRow_heap _ _ _ _ _ _ h.2.2.2⟩
/-- One more: what the document's callees answer, by letters. -/
theorem step_row {cs : Array Value} {x : BitVec 128} (n : Int) (n0 : -9223372036854775808 ≤ n) (n1 : n ≤ 9223372036854775807) (e : cs = wArr x) :
    ∃ bs cs2 : Array Value, Hid (cs2 = wArr (x + BitVec.ofInt 128 n)) ∧ cs.size = 128 ∧ cs2.size = 128 ∧ cs2.all (·.oneCell') = true
      ∧ Hid (∀ w, Calls Tryd.prog 20 #[.int .i64 n] w fun e w' => e = .returned (.agg bs) ∧ Below w.heap.size w w')
      ∧ Hid (∀ w, Calls Tryd.prog 12 #[.agg cs, .agg bs] w fun e w' => e = .returned (.agg cs2) ∧ Below w.heap.size w w') := by
  subst e
  exact ⟨_, _, Lib.hid rfl, fArr_size _, fArr_size _, fArr_one _, Lib.hid fun w => refOf_any n w n0 n1, Lib.hid fun w => refAdd_any x (BitVec.ofInt 128 n) w⟩

set_option maxRecDepth 100000 in
set_option maxHeartbeats 3200000 in
theorem totallaw_any (a : Option Addr) (cap : Nat) (l : List Int) (w : World) (h : IntsAt w a l) (hl : ints64 l) (htab : TabW w) (h300 : l.length ≤ 300) :
    Calls Tryd.prog 6 #[.slice a l.length cap] w fun e w' => e = .returned (.bool true) ∧ Below w.heap.size w w' := by
  have HW := Lib.hid awake_any
  have H := Lib.hid h
  have HL := Lib.hid hl
  have HT := Lib.hid htab
  have HTot := Lib.hid (fun w (h : IntsAt w a l) => total_any a cap l w h hl)
  clear h hl htab
  generalize hlen : l.length = len at *
  have Hlen := Lib.hid hlen
  clear hlen
  go_enter Tryd.func6, Tryd.ntmps6
  go_wp2_with fail
  refine (HW.out _ HT.out).mono ?_
  rintro e w1 ⟨rfl, hb⟩
  have B1 := Lib.hid hb
  clear hb
  go_wp2_with (refine wpList_store_row (o := ⟨none, .store 27 (.tmp 3) (.tmp 14), _, _, _, _⟩) rfl 27 _ _ rfl w1.heap.size Tryd.zeroCells27 rfl rfl 27 Tryd.zeroCells27 (heap_alloc_new _ _) (by kernel_rfl) rfl wZero_one ?_)
  go_loopw [17] (fun i wr => ∃ (k : Nat) (cs : Array Value), k ≤ len ∧ i = .int .i64 k ∧ Hid (cs = wArr (sumL (l.take k))) ∧ Hid (Row3 w wr w1.heap.size cs)) (fun i _ => len - (intOf i).toNat)
  case atStart =>
    refine ⟨0, Tryd.zeroCells27, Nat.zero_le _, rfl, Lib.hid (by rw [wZero, fArr_zero]; rfl), Lib.hid ⟨?_, B1.out.size, by simp, setRow_heap _ _ _ _ _ _ (heap_alloc_new _ _)⟩⟩
    exact below_setRow (B1.out.alloc B1.out.size _) B1.out.size
  case round =>
    obtain ⟨k, cs, hk, rfl, E, K⟩ := hrel
    by_cases hlt : k < len
    · obtain ⟨b, off, rfl, hbs, c0⟩ := (H.out.keep K.out.1).at (i := k) (by rw [Hlen.out]; exact hlt)
      obtain ⟨n0, n1⟩ := HL.out.at (i := k) (by rw [Hlen.out]; exact hlt)
      obtain ⟨n, hn⟩ : ∃ n, n = l.getD k 0 := ⟨_, rfl⟩
      rw [← hn] at c0 n0 n1
      have Hn := Lib.hid hn
      clear hn
      obtain ⟨bs, cs2, E2, z1, z2, one2, HO, HA⟩ := step_row n n0 n1 E.out
      have E3 : Hid (cs2 = wArr (sumL (l.take (k + 1)))) := Lib.hid (by
        rw [take_getD (by rw [Hlen.out]; exact hlt), ← Hn.out, sum_snoc]; exact E2.out)
      have Z1 := Lib.hid z1
      have Z2 := Lib.hid z2
      have O2 := Lib.hid one2
      clear z1 z2 one2
      go_wp2_with fail
      refine wp_region_any (by kernel_rfl) ?_
      refine wpAny_take (i := 1) (v := .int .i64 n) rfl (by kernel_rfl) (by kernel_rfl) (by kernel_rfl) (fun _ _ _ h => h) (Or.inl ⟨by rfl, ?_⟩) ?_
      · intro w; go_simp
      refine wpAny_ready (rs := [0, 2]) (by kernel_rfl) (by simp) ?_
      refine AllReady.cons rfl (fun K' hK => ?_) (AllReady.cons rfl (fun K' hK => ?_) AllReady.nil)
      · skip
        rw [if_pos (by rfl)]
        refine wp_load_row 27 _ rfl w1.heap.size rfl 27 cs (0, 0) _ K.out.2.2.2 Tryd.underlying27 rfl (by rw [Z1.out]; kernel_rfl) ?_
        refine hK _ _ ?_
        clear hK K'
        refine wpAny_ready (rs := [2]) (by kernel_rfl) (by simp) ?_
        refine AllReady.cons rfl (fun K' hK => ?_) AllReady.nil
        go_simp
        refine (HO.out _).mono ?_
        rintro e w2 ⟨rfl, hb2⟩
        have K2 := Lib.hid (K.out.keep ((Below.refl _ _).drew.trans hb2))
        clear hb2
        go_wp2_with fail
        refine wpAny_ready (rs := [3]) (by kernel_rfl) (by simp) ?_
        refine AllReady.cons rfl (fun K' hK => ?_) AllReady.nil
        go_simp
        refine (HA.out _).mono ?_
        rintro e w3 ⟨rfl, hb3⟩
        have K3 := Lib.hid (K2.out.keep hb3)
        clear hb3
        go_wp2_with fail
        refine wpAny_ready (rs := [4]) (by kernel_rfl) (by simp) ?_
        refine AllReady.cons rfl (fun K' hK => ?_) AllReady.nil
        rw [if_pos (by rfl)]
        refine wp_store_row 27 _ _ rfl w1.heap.size cs2 rfl rfl 27 cs K3.out.2.2.2 (by rw [Z2.out]; kernel_rfl) (by rw [Z1.out, Z2.out]) O2.out ?_
        refine hK _ _ ?_
        clear hK K'
        refine wpAny_done (by kernel_rfl) ?_ _
        go_wp2_with fail
        go_roundw
        case rel => exact ⟨k + 1, cs2, by omega, by go_num, E3, Lib.hid (K3.out.set cs2)⟩
        case measure => simp [intOf]; omega
      · skip
        go_simp
        refine (HO.out _).mono ?_
        rintro e w2 ⟨rfl, hb2⟩
        have K2 := Lib.hid (K.out.keep ((Below.refl _ _).drew.trans hb2))
        clear hb2
        go_wp2_with fail
        refine wpAny_ready (rs := [0]) (by kernel_rfl) (by simp) ?_
        refine AllReady.cons rfl (fun K' hK => ?_) AllReady.nil
        rw [if_pos (by rfl)]
        refine wp_load_row 27 _ rfl w1.heap.size rfl 27 cs (0, 0) _ K2.out.2.2.2 Tryd.underlying27 rfl (by rw [Z1.out]; kernel_rfl) ?_
        refine hK _ _ ?_
        clear hK K'
        refine wpAny_ready (rs := [3]) (by kernel_rfl) (by simp) ?_
        refine AllReady.cons rfl (fun K' hK => ?_) AllReady.nil
        go_simp
        refine (HA.out _).mono ?_
        rintro e w3 ⟨rfl, hb3⟩
        have K3 := Lib.hid (K2.out.keep hb3)
        clear hb3
        go_wp2_with fail
        refine wpAny_ready (rs := [4]) (by kernel_rfl) (by simp) ?_
        refine AllReady.cons rfl (fun K' hK => ?_) AllReady.nil
        rw [if_pos (by rfl)]
        refine wp_store_row 27 _ _ rfl w1.heap.size cs2 rfl rfl 27 cs K3.out.2.2.2 (by rw [Z2.out]; kernel_rfl) (by rw [Z1.out, Z2.out]) O2.out ?_
        refine hK _ _ ?_
        clear hK K'
        refine wpAny_done (by kernel_rfl) ?_ _
        go_wp2_with fail
        go_roundw
        case rel => exact ⟨k + 1, cs2, by omega, by go_num, E3, Lib.hid (K3.out.set cs2)⟩
        case measure => simp [intOf]; omega
    · obtain rfl : k = len := by omega
      have EL : Hid (cs = wArr (sumL l)) := Lib.hid (by rw [E.out, List.take_of_length_le (by rw [Hlen.out]; exact Nat.le_refl _)])
      have Z1 : Hid (cs.size = 128) := Lib.hid (by rw [EL.out]; exact fArr_size _)
      obtain ⟨th, tl, HTs, HBs⟩ : ∃ (th : Int) (tl : Nat), Hid (∀ w, IntsAt w a l → Calls Tryd.prog 23 #[.slice a k cap] w fun e w' => e = .returned (.agg #[.int .i64 th, .int .u64 tl]) ∧ Below w.heap.size w w') ∧ Hid (∀ w, Calls Tryd.prog 10 #[.agg #[.int .i64 th, .int .u64 tl]] w fun e w' => e = .returned (.agg cs) ∧ Below w.heap.size w w') :=
        ⟨_, _, HTot, Lib.hid fun w => EL.out ▸ bits_any (sumL l) w⟩
      have HE : ∀ w, (Op.equalIn 10000 27 (.agg cs) (.agg cs)).run Tryd.prog w = .ok true w := fun w => by rw [EL.out, wide_equal]; simp
      have HEq := Lib.hid HE
      clear HE
      go_wp2_with fail
      refine wp_region_any (by kernel_rfl) ?_
      refine wpAny_take (i := 0) (v := .slice a k cap) rfl (by kernel_rfl) (by kernel_rfl) (by kernel_rfl) (fun _ _ _ h => h) (Or.inl ⟨by rfl, ?_⟩) ?_
      · intro w; go_simp
      refine wpAny_ready (rs := [1, 3]) (by kernel_rfl) (by simp) ?_
      refine AllReady.cons rfl (fun K' hK => ?_) (AllReady.cons rfl (fun K' hK => ?_) AllReady.nil)
      · skip
        go_simp
        refine (HTs.out _ (H.out.keep K.out.1.drew)).mono ?_
        rintro e w2 ⟨rfl, hb2⟩
        have K2 := Lib.hid (K.out.keep ((Below.refl _ _).drew.trans hb2))
        clear hb2
        go_wp2_with fail
        refine wpAny_ready (rs := [2, 3]) (by kernel_rfl) (by simp) ?_
        refine AllReady.cons rfl (fun K' hK => ?_) (AllReady.cons rfl (fun K' hK => ?_) AllReady.nil)
        · skip
          go_simp
          refine (HBs.out _).mono ?_
          rintro e w3 ⟨rfl, hb3⟩
          have K3 := Lib.hid (K2.out.keep hb3)
          clear hb3
          go_wp2_with fail
          refine wpAny_ready (rs := [3]) (by kernel_rfl) (by simp) ?_
          refine AllReady.cons rfl (fun K' hK => ?_) AllReady.nil
          rw [if_pos (by rfl)]
          refine wp_load_row 27 _ rfl w1.heap.size rfl 27 cs (0, 0) _ K3.out.2.2.2 Tryd.underlying27 rfl (by rw [Z1.out]; kernel_rfl) ?_
          refine hK _ _ ?_
          clear hK K'
          have HE := HEq.out
          refine wpAny_take (i := 4) (v := .bool true) rfl (by kernel_rfl) (by kernel_rfl) (by kernel_rfl) (fun _ _ _ h => h) (Or.inl ⟨by rfl, ?_⟩) ?_
          · intro w; go_simp
          refine wpAny_take (i := 5) (v := .bool true) rfl (by kernel_rfl) (by kernel_rfl) (by kernel_rfl) (fun _ _ _ h => h) (Or.inl ⟨by rfl, ?_⟩) ?_
          · intro w; go_simp
          refine wpAny_done (by kernel_rfl) ?_ _
          go_wp2_with fail
          go_ret
          exact ⟨rfl, K3.out.1⟩
        · skip
          rw [if_pos (by rfl)]
          refine wp_load_row 27 _ rfl w1.heap.size rfl 27 cs (0, 0) _ K2.out.2.2.2 Tryd.underlying27 rfl (by rw [Z1.out]; kernel_rfl) ?_
          refine hK _ _ ?_
          clear hK K'
          refine wpAny_ready (rs := [2]) (by kernel_rfl) (by simp) ?_
          refine AllReady.cons rfl (fun K' hK => ?_) AllReady.nil
          go_simp
          refine (HBs.out _).mono ?_
          rintro e w3 ⟨rfl, hb3⟩
          have K3 := Lib.hid (K2.out.keep hb3)
          clear hb3
          go_wp2_with fail
          have HE := HEq.out
          refine wpAny_take (i := 4) (v := .bool true) rfl (by kernel_rfl) (by kernel_rfl) (by kernel_rfl) (fun _ _ _ h => h) (Or.inl ⟨by rfl, ?_⟩) ?_
          · intro w; go_simp
          refine wpAny_take (i := 5) (v := .bool true) rfl (by kernel_rfl) (by kernel_rfl) (by kernel_rfl) (fun _ _ _ h => h) (Or.inl ⟨by rfl, ?_⟩) ?_
          · intro w; go_simp
          refine wpAny_done (by kernel_rfl) ?_ _
          go_wp2_with fail
          go_ret
          exact ⟨rfl, K3.out.1⟩
      · skip
        rw [if_pos (by rfl)]
        refine wp_load_row 27 _ rfl w1.heap.size rfl 27 cs (0, 0) _ K.out.2.2.2 Tryd.underlying27 rfl (by rw [Z1.out]; kernel_rfl) ?_
        refine hK _ _ ?_
        clear hK K'
        refine wpAny_ready (rs := [1]) (by kernel_rfl) (by simp) ?_
        refine AllReady.cons rfl (fun K' hK => ?_) AllReady.nil
        go_simp
        refine (HTs.out _ (H.out.keep K.out.1.drew)).mono ?_
        rintro e w2 ⟨rfl, hb2⟩
        have K2 := Lib.hid (K.out.keep ((Below.refl _ _).drew.trans hb2))
        clear hb2
        go_wp2_with fail
        refine wpAny_ready (rs := [2]) (by kernel_rfl) (by simp) ?_
        refine AllReady.cons rfl (fun K' hK => ?_) AllReady.nil
        go_simp
        refine (HBs.out _).mono ?_
        rintro e w3 ⟨rfl, hb3⟩
        have K3 := Lib.hid (K2.out.keep hb3)
        clear hb3
        go_wp2_with fail
        have HE := HEq.out
        refine wpAny_take (i := 4) (v := .bool true) rfl (by kernel_rfl) (by kernel_rfl) (by kernel_rfl) (fun _ _ _ h => h) (Or.inl ⟨by rfl, ?_⟩) ?_
        · intro w; go_simp
        refine wpAny_take (i := 5) (v := .bool true) rfl (by kernel_rfl) (by kernel_rfl) (by kernel_rfl) (fun _ _ _ h => h) (Or.inl ⟨by rfl, ?_⟩) ?_
        · intro w; go_simp
        refine wpAny_done (by kernel_rfl) ?_ _
        go_wp2_with fail
        go_ret
        exact ⟨rfl, K3.out.1⟩

theorem WideTotal_any (a : Option Addr) (cap : Nat) (l : List Int) (w : World) (h : IntsAt w a l) (hl : ints64 l) (htab : TabW w) :
    Calls Tryd.prog 6 #[.slice a l.length cap] w fun e w' => e = .returned (.bool true) ∧ Below w.heap.size w w' := by
  by_cases h3 : l.length ≤ 300
  · exact totallaw_any a cap l w h hl htab h3
  · exact totallaw_gen a cap l.length w h.1 (Lib.hid awake_any) htab (by omega)
end Go.Proofs.YtiahfdlmjfpglaaDoor
