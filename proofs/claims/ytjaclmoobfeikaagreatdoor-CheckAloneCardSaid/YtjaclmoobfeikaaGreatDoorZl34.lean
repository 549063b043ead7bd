/- The items of a query's keys. The columns that a predicate names. Parse: a text's query, or the place and the number of what is wrong with it. -/
import Derived.Test.YtjaclmoobfeikaaGreatDoorZl33
import Derived.Test.YtjaclmoobfeikaaGreatDoorZl27
import Derived.Test.YtjaclmoobfeikaaGreatDoorZl24
import Derived.Test.YtjaclmoobfeikaaGreatDoorZl03
import Derived.Test.YtjaclmoobfeikaaGreatDoorZl05
namespace Go.Proofs.YtjaclmoobfeikaaGreatDoor
open Go.RowKit

theorem flat_take {α : Type} [Inhabited α] (c : α → List Value) (l : List α) (k : Nat) (h : k < l.length) : (l.take (k + 1)).flatMap c = (l.take k).flatMap c ++ c (l.getD k default) := by
  rw [List.take_add_one, List.flatMap_append, List.getD_eq_getElem?_getD, List.getElem?_eq_getElem h]
  simp
/-- What is written besides is new. -/
theorem grown_onlyN {M : Nat → Prop} {w w' w'' : World} (h : w.grownBy w' none) (o : Only M w' w'') (hM : ∀ k, M k → w.heap.size ≤ k) : w.grownBy w'' none :=
  ⟨by first | exact h.os.trans o.os | exact o.os.trans h.os, by first | exact h.tape.trans o.tape | exact o.tape.trans h.tape, by first | exact h.output.trans o.output | exact o.output.trans h.output, Nat.le_trans h.size o.size, fun k hk _ => (o.block k (Nat.lt_of_lt_of_le hk h.size) (fun e => by have := hM k e; omega)).trans (h.block k hk (by simp))⟩
set_option maxHeartbeats 3200000 in
theorem ordered_any (S : Nat → Prop) (y : Qm) (w : World) (h : CellsS S w y.oa (y.order.flatMap Kyo.c)) (hl : y.order.length ≤ 1000) :
    Calls Tryz.prog 40 #[.agg y.c] w fun e w' => ∃ a cap, e = .returned (.slice a y.order.length cap) ∧ Win 3 w' a cap y.order.length (y.order.flatMap fun k => k.item.c) ∧ (∀ k, bk a k → w.heap.size ≤ k) ∧ w.grownBy w' none := by
  obtain ⟨ia1, ic1, its1, al1, ta1, ⟨k1, c1, rr1, v1, o1, la1, lc1, li1, ka1, kc1, ks1, pp1⟩, ga1, gc1, gr1, oa1, oc1, od1, lim1⟩ := y
  show Calls Tryz.prog 40 #[.agg #[.slice ia1 its1.length ic1, .bool al1, .string ta1, .int .i64 (k1 : Nat), .string c1, .int .i64 (rr1 : Nat), .int .i64 v1.k, .int .i64 v1.n, .string v1.s, .string o1, .slice la1 li1.length lc1, .slice ka1 ks1.length kc1, .int .i64 (pp1 : Nat), .slice ga1 gr1.length gc1, .slice oa1 od1.length oc1, .int .i64 lim1, .int .i64 0]] w _
  dsimp only at h hl ⊢
  generalize its1.length = n0 at *
  generalize li1.length = n2 at *
  generalize ks1.length = n4 at *
  generalize gr1.length = n6 at *
  obtain ⟨n, hn⟩ : ∃ n, n = od1.length := ⟨_, rfl⟩
  have Hn := Lib.hid hn
  rw [← hn] at hl ⊢
  have H := Lib.hid h
  have K0 := Lib.hid (World.grownBy_alloc w (.cells #[.slice ia1 n0 ic1, .bool al1, .string ta1, .int .i64 (k1 : Nat), .string c1, .int .i64 (rr1 : Nat), .int .i64 v1.k, .int .i64 v1.n, .string v1.s, .string o1, .slice la1 n2 lc1, .slice ka1 n4 kc1, .int .i64 (pp1 : Nat), .slice ga1 n6 gc1, .slice oa1 n oc1, .int .i64 lim1, .int .i64 0] 36) none)
  have B1 := heap_alloc_new w (.cells #[.slice ia1 n0 ic1, .bool al1, .string ta1, .int .i64 (k1 : Nat), .string c1, .int .i64 (rr1 : Nat), .int .i64 v1.k, .int .i64 v1.n, .string v1.s, .string o1, .slice la1 n2 lc1, .slice ka1 n4 kc1, .int .i64 (pp1 : Nat), .slice ga1 n6 gc1, .slice oa1 n oc1, .int .i64 lim1, .int .i64 0] 36)
  obtain ⟨a0, a1, a2, a3, a4, a5, a6, a7, a8, a9, a10, a11, a12, a13, a14, a15, a16⟩ := cells17 B1
  clear h hn B1 a0 a1 a2 a3 a4 a5 a6 a7 a8 a9 a10 a11 a12 a13 a15 a16
  go_enter Tryz.func40, Tryz.ntmps40
  go_wp2_with fail
  go_loopw [3, 9] (fun s3 s9 wr => ∃ (k cap : Nat) (a : Ptr), s3 = .slice a k cap ∧ s9 = .int .i64 k ∧ k ≤ n ∧ Hid (Win 3 wr a cap k ((od1.take k).flatMap fun k => k.item.c) ∧ (∀ k, bk a k → w.heap.size ≤ k) ∧ w.grownBy wr none)) (fun _ s9 _ => n - (intOf s9).toNat)
  case atStart => exact ⟨0, 0, none, rfl, rfl, by omega, Lib.hid ⟨Win.nil 3 _, fun k h => by simp [bk] at h, K0.out⟩⟩
  case round =>
    obtain ⟨k, cap, a, rfl, rfl, hk, K⟩ := hrel
    by_cases hlt : k < n
    · obtain ⟨b, off, rfl, _, hb, hc⟩ := (H.out.keep (.of K.out.2.2)).elem Kyo.c_len (by decide) (i := k) (by rw [← Hn.out]; exact hlt)
      obtain ⟨x, hx⟩ : ∃ x, x = od1.getD k default := ⟨_, rfl⟩
      have hT := flat_take (fun k : Kyo => k.item.c) od1 k (by rw [← Hn.out]; exact hlt)
      rw [← hx] at hc hT
      have HT := Lib.hid hT
      clear hx hT
      obtain ⟨⟨xa, xc, xp⟩, xd⟩ := x
      have c0 := hc 0 _ rfl
      have c1 := hc 1 _ rfl
      have c2 := hc 2 _ rfl
      have c3 := hc 3 _ rfl
      clear hc
      rw [Nat.add_zero] at c0
      go_wp2_with (refine wpList_append_win (by rfl) (.tmp 13) (.tmp 16) itm_el (by rfl) (K.out.1.keepG ((World.grownBy_alloc wr (.cells #[.int .i64 (xa : Int), .string xc, .int .i64 (xp : Int), .bool xd] 67) none).trans (World.grownBy_alloc _ (.cells #[.int .i64 (xa : Int), .string xc, .int .i64 (xp : Int)] 65) none))) (by omega) (by rfl) ⟨wr.heap.size + 1, 0, none⟩ 1 (by rfl) [.int .i64 (xa : Int), .string xc, .int .i64 (xp : Int)] rfl (by
        have := World.news_of_block (heap_alloc_new (wr.alloc (.cells #[.int .i64 (xa : Int), .string xc, .int .i64 (xp : Int), .bool xd] 67)) (.cells #[.int .i64 (xa : Int), .string xc, .int .i64 (xp : Int)] 65))
        simpa using this) (by intro u hu; simp only [List.mem_cons, List.not_mem_nil, or_false] at hu; rcases hu with rfl | rfl | rfl <;> rfl) ?_)
      intro a' cap' w4 hw4 ho4 hb4
      have hlo := K.out.2.1
      have G4 := Lib.hid (grown_onlyN ((K.out.2.2.trans (World.grownBy_alloc wr (.cells #[.int .i64 (xa : Int), .string xc, .int .i64 (xp : Int), .bool xd] 67) none)).trans (World.grownBy_alloc _ (.cells #[.int .i64 (xa : Int), .string xc, .int .i64 (xp : Int)] 65) none)) ho4 hlo)
      have W4 := Lib.hid hw4
      have L4 : Hid (∀ j, bk a' j → w.heap.size ≤ j) := by
        refine Lib.hid fun j hj => ?_
        rcases hb4 j hj with h | h
        · exact hlo j h
        · have h1 := K.out.2.2.size
          have h2 : wr.heap.size + 2 ≤ j := by simpa using h
          omega
      clear hw4 ho4 hb4 hlo
      go_wp2_with fail
      go_roundw
      case rel => exact ⟨k + 1, cap', a', rfl, by go_num, by omega, Lib.hid ⟨by rw [HT.out]; exact W4.out, L4.out, G4.out⟩⟩
      case measure => simp [intOf]; omega
    · obtain rfl : k = n := by omega
      go_wp2_with fail
      go_ret
      refine ⟨a, cap, rfl, ?_, K.out.2.1, K.out.2.2⟩
      have := K.out.1
      rwa [List.take_of_length_le (by rw [← Hn.out]; exact Nat.le_refl _)] at this
end Go.Proofs.YtjaclmoobfeikaaGreatDoor
namespace Go.Proofs.YtjaclmoobfeikaaGreatDoor
open Go.RowKit
set_option maxHeartbeats 3200000 in
/-- The columns that a predicate names, but for its Kids: at most two, in new memory. -/
theorem names_any (x : Pm) (w : World) :
    Calls Tryz.prog 23 #[x.v] w fun e w' => ∃ a cap, e = .returned (.slice a x.e.nms.length cap) ∧ (x.e.nms = [] ∨ ∃ g, a = some ⟨g, 0, none⟩ ∧ w.heap.size ≤ g ∧ w'.heap[g]? = some (.cells (x.e.nms.map Value.string).toArray 9 (0, 0))) ∧ w.grownBy w' none := by
  obtain ⟨k1, c1, rr1, v1, o1, la1, lc1, li1, ka1, kc1, ks1, pp1⟩ := x
  have hn : (Pm.mk k1 c1 rr1 v1 o1 la1 lc1 li1 ka1 kc1 ks1 pp1).e.nms = if k1 = 3 ∨ k1 = 5 ∨ k1 = 6 ∨ k1 = 7 then [c1] else if k1 = 4 then [c1, o1] else [] := by
    rw [Pm.e]; rfl
  rw [hn]
  clear hn
  show Calls Tryz.prog 23 #[.agg #[.int .i64 (k1 : Nat), .string c1, .int .i64 (rr1 : Nat), .int .i64 v1.k, .int .i64 v1.n, .string v1.s, .string o1, .slice la1 li1.length lc1, .slice ka1 ks1.length kc1, .int .i64 (pp1 : Nat)]] w _
  generalize li1.length = n2 at *
  generalize ks1.length = n4 at *
  have G1 := Lib.hid (World.grownBy_alloc w (.cells #[.int .i64 (k1 : Nat), .string c1, .int .i64 (rr1 : Nat), .int .i64 v1.k, .int .i64 v1.n, .string v1.s, .string o1, .slice la1 n2 lc1, .slice ka1 n4 kc1, .int .i64 (pp1 : Nat)] 33) none)
  have B1 := heap_alloc_new w (.cells #[.int .i64 (k1 : Nat), .string c1, .int .i64 (rr1 : Nat), .int .i64 v1.k, .int .i64 v1.n, .string v1.s, .string o1, .slice la1 n2 lc1, .slice ka1 n4 kc1, .int .i64 (pp1 : Nat)] 33)
  obtain ⟨⟨p0, p1, p2, p3, p4⟩, p5, p6, p7, p8, p9⟩ := ten_of B1
  have A2 := Lib.hid (heap_alloc_new (w.alloc (.cells #[.int .i64 (k1 : Nat), .string c1, .int .i64 (rr1 : Nat), .int .i64 v1.k, .int .i64 v1.n, .string v1.s, .string o1, .slice la1 n2 lc1, .slice ka1 n4 kc1, .int .i64 (pp1 : Nat)] 33)) (.cells #[.string c1] 9))
  have A3 := Lib.hid (heap_alloc_new (w.alloc (.cells #[.int .i64 (k1 : Nat), .string c1, .int .i64 (rr1 : Nat), .int .i64 v1.k, .int .i64 v1.n, .string v1.s, .string o1, .slice la1 n2 lc1, .slice ka1 n4 kc1, .int .i64 (pp1 : Nat)] 33)) (.cells #[.string c1, .string o1] 9))
  have hsz : (w.alloc (.cells #[.int .i64 (k1 : Nat), .string c1, .int .i64 (rr1 : Nat), .int .i64 v1.k, .int .i64 v1.n, .string v1.s, .string o1, .slice la1 n2 lc1, .slice ka1 n4 kc1, .int .i64 (pp1 : Nat)] 33)).heap.size = w.heap.size + 1 := by simp
  rw [hsz] at A2 A3
  clear hsz
  clear B1 p2 p3 p4 p5 p7 p8 p9
  by_cases h3 : k1 = 3 ∨ k1 = 5 ∨ k1 = 6 ∨ k1 = 7
  · rw [if_pos h3]
    rcases h3 with rfl | rfl | rfl | rfl
    all_goals
      go_enter Tryz.func23, Tryz.ntmps23
      go_wp2_with fail
      go_ret
      exact ⟨_, 1, rfl, .inr ⟨w.heap.size + 1, rfl, by omega, A2.out⟩, G1.out.trans (World.grownBy_alloc _ _ none)⟩
  · rw [if_neg h3]
    have q3 : ((k1 : Int) == 3) = false := by rw [beq_eq_false_iff_ne]; omega
    have q5 : ((k1 : Int) == 5) = false := by rw [beq_eq_false_iff_ne]; omega
    have q6 : ((k1 : Int) == 6) = false := by rw [beq_eq_false_iff_ne]; omega
    have q7 : ((k1 : Int) == 7) = false := by rw [beq_eq_false_iff_ne]; omega
    by_cases h4 : k1 = 4
    · rw [if_pos h4]
      subst h4
      clear q3 q5 q6 q7 h3
      go_enter Tryz.func23, Tryz.ntmps23
      go_wp2_with fail
      go_ret
      exact ⟨_, 2, rfl, .inr ⟨w.heap.size + 1, rfl, by omega, A3.out⟩, G1.out.trans (World.grownBy_alloc _ _ none)⟩
    · rw [if_neg h4]
      have q4 : ((k1 : Int) == 4) = false := by rw [beq_eq_false_iff_ne]; omega
      clear h3 h4
      go_enter Tryz.func23, Tryz.ntmps23
      go_wp2_with fail
      go_ret
      exact ⟨none, 0, rfl, .inl (by first | trivial | rfl), G1.out⟩
end Go.Proofs.YtjaclmoobfeikaaGreatDoor
namespace Go.Proofs.YtjaclmoobfeikaaGreatDoor
open Go.RowKit

theorem pread_any (G : Nat) (n g m l : Addr) (s : ByteArray) (w : World) (hE : LxEnv G n g m l w) : Calls Tryz.prog 19 #[.string s] w (ReadIs s w) := by
  cases h : lexL s with
  | error e => exact pread_bad G n g m l s w hE e.1 e.2 h
  | ok t => exact pread_ok G n g m l s w hE t h
/-- What Parse answers. -/
def ParseIs (s : ByteArray) (w : World) (e : Ending) (w' : World) : Prop :=
  w.grownBy w' none ∧ ((∃ p c, parseL s = .error (p, c) ∧ e = .returned (.tuple #[.agg (Qm.z 0).c, .int .i64 p, .int .i64 c]))
  ∨ ∃ y : Qm, parseL s = .ok y.e ∧ e = .returned (.tuple #[.agg y.c, .int .i64 0, .int .i64 0]) ∧ QmS (fun j => w.heap.size ≤ j) w' y)
theorem errT_keep {G : Nat} {w w' : World} (h : ErrT G w) (hg : w.grownBy w' none) : ErrT G w' := ⟨h.1, hg.cell h.2 (by simp)⟩
theorem queryL_nil (s : ByteArray) : (∃ p c, parseL s = .error (p, c)) ∨ ∃ y, parseL s = .ok y := by
  cases h : parseL s with
  | error e => exact .inl ⟨e.1, e.2, rfl⟩
  | ok y => exact .inr ⟨y, rfl⟩
set_option maxRecDepth 100000 in
set_option maxHeartbeats 6400000 in
/-- Parse where the reader's answer bears no error. -/
theorem parse_ok (G : Nat) (n g m l : Addr) (s : ByteArray) (w : World) (hE : LxEnv G n g m l w) (y0 : Qry) (hy0 : parseL s = .ok y0) : Calls Tryz.prog 10 #[.string s] w (ParseIs s w) := by
  have HR := Lib.hid (fun W (hW : w.grownBy W none) => pread_any G n g m l s W (hE.keep hW))
  have HA := Lib.hid as_nil
  have HY := Lib.hid hy0
  clear hE hy0
  go_enter Tryz.func10, Tryz.ntmps10
  have GA := Lib.hid (World.grownBy_alloc w (.cells (Qm.z 0).c 36) none)
  go_wp2_with fail
  refine (HR.out _ GA.out).mono ?_
  rintro e w2 ⟨hg, h⟩
  have h : ∃ y : Qm, parseL s = .ok y.e ∧ e = .returned (.tuple #[.agg y.c, .nilIface]) ∧ QmS (fun j => (w.alloc (.cells (Qm.z 0).c 36)).heap.size ≤ j) w2 y := by
    rcases h with ⟨p, c, y, h1, _⟩ | h
    · rw [HY.out] at h1; cases h1
    · exact h
  obtain ⟨y, hp, rfl, hS⟩ := h
  have HP := Lib.hid hp
  have HS := Lib.hid hS
  have G2 := Lib.hid (GA.out.trans hg)
  have A2 := Lib.hid (blk_grown hg (heap_alloc_new w _))
  have l2 := hg.size
  have B5 := Lib.hid (heap_alloc_new w2 (.cells (Qm.z 0).c 36))
  clear hg hp hS HY
  go_wp2_with (refine wpList_store_row rfl 36 (.tmp 5) (.tmp 12) rfl w2.heap.size y.c rfl rfl 36 (Qm.z 0).c B5.out (by rw [Qm.c_size]; exact query_size) (by rw [Qm.c_size, Qm.c_size]) (Qm.c_all _) ?_)
  have gA := Lib.hid (World.grownBy_alloc w2 (.cells (Qm.z 0).c 36) none)
  have gS := Lib.hid (grown_setRow (w2.alloc (.cells (Qm.z 0).c 36)) w2.heap.size y.c)
  have B6 := Lib.hid (setRow_heap (w2.alloc (.cells (Qm.z 0).c 36)) w2.heap.size (Qm.z 0).c y.c _ _ B5.out)
  have s1 : (w.alloc (.cells (Qm.z 0).c 36)).heap.size = w.heap.size + 1 := by simp
  have A6 := Lib.hid (blk_row gS.out (blk_grown gA.out A2.out) (by omega))
  refine (HA.out _ _).mono ?_
  rintro e w7 ⟨rfl, rfl⟩
  go_upto_region 6 with fail
  obtain ⟨w7, hw7⟩ : ∃ w7, w7 = (((w2.alloc (.cells (Qm.z 0).c 36)).setRow w2.heap.size y.c).alloc (.cells #[.int .i64 0, .nilIface] 73)).alloc (.cells #[.int .i64 0] 74) := ⟨_, rfl⟩
  have gB := (World.grownBy_alloc ((w2.alloc (.cells (Qm.z 0).c 36)).setRow w2.heap.size y.c) (.cells #[.int .i64 0, .nilIface] 73) none).trans (World.grownBy_alloc _ (.cells #[.int .i64 0] 74) none)
  rw [← hw7] at gB
  have B7 := Lib.hid (blk_grown gB B6.out)
  have A7 := Lib.hid (blk_grown gB A6.out)
  have g2 : w2.grownBy ((w2.alloc (.cells (Qm.z 0).c 36)).setRow w2.heap.size y.c) none := grown_thenX gA.out gS.out (fun j e => by cases e; exact Nat.le_refl _)
  have g27 := Lib.hid (g2.trans gB)
  have g7 := Lib.hid (G2.out.trans g27.out)
  change Code.wp _ _ _ _ ((((w2.alloc (.cells (Qm.z 0).c 36)).setRow w2.heap.size y.c).alloc (.cells #[.int .i64 0, .nilIface] 73)).alloc (.cells #[.int .i64 0] 74))
  rw [← hw7]
  clear hw7 gB g2 gA gS B6 A6 B5
  go_wp2_with (first
    | (refine wpList_load_row rfl 36 (.tmp 5) rfl w2.heap.size rfl 36 y.c (0, 0) _ B7.out Tryz.underlying36 rfl (by rw [Qm.c_size]; exact query_size) ?_)
    | (refine wpList_store_row rfl 36 (.tmp 2) (.tmp 26) rfl w.heap.size y.c rfl rfl 36 (Qm.z 0).c A7.out (by rw [Qm.c_size]; exact query_size) (by rw [Qm.c_size, Qm.c_size]) (Qm.c_all _) ?_))
  have hS := grown_setRow w7 w.heap.size y.c
  refine bodyPost_ret (results_qm3 (p := 2) (u := 3) (v := 4) rfl _ _ w.heap.size y rfl (setRow_heap w7 w.heap.size (Qm.z 0).c y.c _ _ A7.out)) rfl ⟨grown_thenX g7.out hS (fun j e => by cases e; exact Nat.le_refl _), .inr ⟨y, HP.out, rfl, ?_⟩⟩
  have h1 := (HS.out.keep (.of g27.out)).keep (w' := w7.setRow w.heap.size y.c) ⟨hS.size, fun b hb hlt => hS.block b hlt (by simp; omega)⟩
  exact h1.mono (fun j _ hj => by omega)
def zl17 : List Value := [.slice Option.none 0 0, .bool false, .string ⟨#[]⟩, .int .i64 0, .string ⟨#[]⟩, .int .i64 0, .int .i64 0, .int .i64 0, .string ⟨#[]⟩, .string ⟨#[]⟩, .slice Option.none 0 0, .slice Option.none 0 0, .int .i64 0, .slice Option.none 0 0, .slice Option.none 0 0, .int .i64 0, .int .i64 0]
set_option maxRecDepth 100000 in
set_option maxHeartbeats 6400000 in
/-- Parse where a token is wrong. -/
theorem parse_bad (G : Nat) (n g m l : Addr) (s : ByteArray) (w : World) (hE : LxEnv G n g m l w) (p0 c0 : Nat) (hy0 : parseL s = .error (p0, c0)) : Calls Tryz.prog 10 #[.string s] w (ParseIs s w) := by
  have HR := Lib.hid (fun W (hW : w.grownBy W none) => pread_any G n g m l s W (hE.keep hW))
  have HF := Lib.hid ParF.as_hitF
  have HW := Lib.hid ParR.as_wrapR
  have HT := Lib.hid (And.intro hE.et hE.le)
  have HY := Lib.hid hy0
  clear hE hy0
  go_enter Tryz.func10, Tryz.ntmps10
  have GA := Lib.hid (World.grownBy_alloc w (.cells (Qm.z 0).c 36) none)
  go_wp2_with fail
  refine (HR.out _ GA.out).mono ?_
  rintro e w2 ⟨hg, h⟩
  have h : ∃ y : Qm, e = .returned (.tuple #[.agg y.c, .iface 73 (.agg #[.int .i64 p0, .iface 74 (.int .i64 c0)])]) := by
    rcases h with ⟨p, c, y, h1, h2⟩ | ⟨y, h1, _⟩
    · rw [HY.out] at h1; cases h1; exact ⟨y, h2⟩
    · rw [HY.out] at h1; cases h1
  obtain ⟨y, rfl⟩ := h
  have G2 := Lib.hid (GA.out.trans hg)
  have A2 := Lib.hid (blk_grown hg (heap_alloc_new w _))
  have l2 := hg.size
  have B5 := Lib.hid (heap_alloc_new w2 (.cells (Qm.z 0).c 36))
  clear hg
  go_wp2_with (refine wpList_store_row rfl 36 (.tmp 5) (.tmp 12) rfl w2.heap.size y.c rfl rfl 36 (Qm.z 0).c B5.out (by rw [Qm.c_size]; exact query_size) (by rw [Qm.c_size, Qm.c_size]) (Qm.c_all _) ?_)
  have gA := Lib.hid (World.grownBy_alloc w2 (.cells (Qm.z 0).c 36) none)
  have gS := Lib.hid (grown_setRow (w2.alloc (.cells (Qm.z 0).c 36)) w2.heap.size y.c)
  have s1 : (w.alloc (.cells (Qm.z 0).c 36)).heap.size = w.heap.size + 1 := by simp
  have A6 := Lib.hid (blk_row gS.out (blk_grown gA.out A2.out) (by omega))
  obtain ⟨w3, hw3⟩ : ∃ w3, w3 = (w2.alloc (.cells (Qm.z 0).c 36)).setRow w2.heap.size y.c := ⟨_, rfl⟩
  have s3 : w3.heap.size = w2.heap.size + 1 := by rw [hw3]; simp
  have g3 : w2.grownBy w3 none := by rw [hw3]; exact grown_thenX gA.out gS.out (fun j e => by cases e; exact Nat.le_refl _)
  obtain ⟨w7, hw7⟩ : ∃ w7, w7 = (w3.alloc (.cells #[.int .i64 0, .nilIface] 73)).alloc (.cells #[.int .i64 0] 74) := ⟨_, rfl⟩
  have gF := World.grownBy_alloc w3 (.cells #[.int .i64 0, .nilIface] 73) none
  have gR := World.grownBy_alloc (w3.alloc (.cells #[.int .i64 0, .nilIface] 73)) (.cells #[.int .i64 0] 74) none
  have F7 := blk_grown gR (heap_alloc_new w3 (.cells #[.int .i64 0, .nilIface] 73))
  have R7 := heap_alloc_new (w3.alloc (.cells #[.int .i64 0, .nilIface] 73)) (.cells #[.int .i64 0] 74)
  have sF : (w3.alloc (.cells #[.int .i64 0, .nilIface] 73)).heap.size = w2.heap.size + 1 + 1 := by simp [s3]
  rw [sF] at R7
  rw [s3] at F7
  have gB := gF.trans gR
  rw [← hw3] at A6
  rw [← hw7] at gB F7 R7
  have A7 := Lib.hid (blk_grown gB A6.out)
  have g7 := Lib.hid ((G2.out.trans g3).trans gB)
  have F7 := Lib.hid F7
  have R7 := Lib.hid R7
  have hw9 := hw7
  rw [hw3] at hw9
  change Calls _ _ _ ((((w2.alloc (.cells (Qm.z 0).c 36)).setRow w2.heap.size y.c).alloc (.cells #[.int .i64 0, .nilIface] 73)).alloc (.cells #[.int .i64 0] 74)) _
  rw [← hw9]
  clear hw3 hw7 hw9 gF gR gB g3 gA gS A6 A2 B5 sF
  refine (HF.out p0 74 (.int .i64 c0) (w2.heap.size + 1) G _ _ w7 (errT_keep HT.out.1 g7.out) (cell_of_row _ _ 0 _ _ _ F7.out) (cell_of_row _ _ 1 _ _ _ F7.out) (frozen_of_row _ _ 0 _ _ F7.out) (frozen_of_row _ _ 1 _ _ F7.out)).mono ?_
  rintro e w8 ⟨rfl, h8⟩
  obtain ⟨w4, hg4, hw8⟩ := h8
  have l7 := (Array.getElem?_eq_some_iff.1 R7.out).1
  have l4 := hg4.size
  have A8 : Hid (w8.heap[w.heap.size]? = some (.cells (Qm.z 0).c 36 (0, 0))) := Lib.hid (by
    rw [hw8]
    exact (heap_setCell_other _ _ _ _ (by simp; omega)).trans ((heap_setCell_other _ _ _ _ (by simp; omega)).trans (blk_grown hg4 A7.out)))
  have R8 : Hid (w8.heap[w2.heap.size + 1 + 1]? = some (.cells #[.int .i64 0] 74 (0, 0))) := Lib.hid (by
    rw [hw8]
    exact (heap_setCell_other _ _ _ _ (by simp)).trans ((heap_setCell_other _ _ _ _ (by simp)).trans (blk_grown hg4 R7.out)))
  have F8 : Hid (w8.heap[w2.heap.size + 1]? = some (.cells #[.int .i64 p0, .iface 74 (.int .i64 c0)] 73 (0, 0))) := Lib.hid (by
    rw [hw8]
    exact heap_setCell_same _ _ _ _ _ _ (heap_setCell_same _ _ _ _ _ _ (blk_grown hg4 F7.out)))
  have g8 : Hid (w.grownBy w8 none) := Lib.hid (by
    have h4 := g7.out.trans hg4
    rw [hw8]
    exact ⟨h4.os, h4.tape, h4.output, by simp; exact h4.size, fun k hk _ => (heap_setCell_other _ _ _ _ (by simp; omega)).trans ((heap_setCell_other _ _ _ _ (by simp; omega)).trans (h4.block k hk (by simp)))⟩)
  have l8 : w2.heap.size + 1 + 1 < w8.heap.size := (Array.getElem?_eq_some_iff.1 R8.out).1
  clear hg4 hw8 l4 A7 F7 R7 g7 HF HR h
  go_wp2_with fail
  refine (HW.out p0 c0 (w2.heap.size + 1 + 1) G _ w8 (errT_keep HT.out.1 g8.out) (cell_of_row _ _ 0 _ _ _ R8.out) (frozen_of_row _ _ 0 _ _ R8.out)).mono ?_
  rintro e w9 ⟨rfl, h9⟩
  obtain ⟨w4, hg4, hw9⟩ := h9
  have l4 := hg4.size
  have A9 : Hid (w9.heap[w.heap.size]? = some (.cells (Qm.z 0).c 36 (0, 0))) := Lib.hid (by
    rw [hw9]
    exact (heap_setCell_other _ _ _ _ (by simp; omega)).trans (blk_grown hg4 A8.out))
  have R9 : Hid (w9.heap[w2.heap.size + 1 + 1]? = some (.cells #[.int .i64 c0] 74 (0, 0))) := Lib.hid (by
    rw [hw9]
    exact heap_setCell_same _ _ _ _ _ _ (blk_grown hg4 R8.out))
  have F9 : Hid (w9.heap[w2.heap.size + 1]? = some (.cells #[.int .i64 p0, .iface 74 (.int .i64 c0)] 73 (0, 0))) := Lib.hid (by
    rw [hw9]
    exact (heap_setCell_other _ _ _ _ (by simp)).trans (blk_grown hg4 F8.out))
  have g9 : Hid (w.grownBy w9 none) := Lib.hid (by
    have h4 := g8.out.trans hg4
    rw [hw9]
    exact ⟨h4.os, h4.tape, h4.output, by simp; exact h4.size, fun k hk _ => (heap_setCell_other _ _ _ _ (by simp; omega)).trans (h4.block k hk (by simp))⟩)
  clear hg4 hw9 l4 A8 F8 R8 g8 HW HT
  have hbl : (w9.drew.setCells w.heap.size 0 zl17).heap[w.heap.size]? = some (.cells (Qm.z 0).c 36 (0, 0)) := by
    rw [heap_setCells zl17 0 w9.drew _ A9.out]; rfl
  have hgs := grown_setCells w.heap.size zl17 0 w9.drew
  have HF1 : Hid (w.grownBy (w9.drew.setCells w.heap.size 0 zl17) none) := Lib.hid (grown_thenX (grown_drewT g9.out) hgs (fun j e => by cases e; exact Nat.le_refl _))
  have HB := Lib.hid hbl
  clear hbl hgs g9
  have t0 : w9.cell? ⟨w2.heap.size + 1, 0, none⟩ = some (.int .i64 p0) := cell_of_row _ _ 0 _ _ _ F9.out
  have t1 : w9.cell? ⟨w2.heap.size + 1 + 1, 0, none⟩ = some (.int .i64 c0) := cell_of_row _ _ 0 _ _ _ R9.out
  have t0' : w9.drew.cell? ⟨w2.heap.size + 1, 0, none⟩ = some (.int .i64 p0) := t0
  have t1' : w9.drew.cell? ⟨w2.heap.size + 1 + 1, 0, none⟩ = some (.int .i64 c0) := t1
  have n1 : w2.heap.size + 1 ≠ w.heap.size := by omega
  have n2 : w2.heap.size + 1 + 1 ≠ w.heap.size := by omega
  obtain ⟨q0, q1, q2, q3, q4, q5, q6, q7, q8, q9, q10, q11, q12, q13, q14, q15, q16⟩ := cells17 (show w9.drew.heap[w.heap.size]? = some (.cells #[.slice Option.none 0 0, .bool false, .string ⟨#[]⟩, .int .i64 0, .string ⟨#[]⟩, .int .i64 0, .int .i64 0, .int .i64 0, .string ⟨#[]⟩, .string ⟨#[]⟩, .slice Option.none 0 0, .slice Option.none 0 0, .int .i64 0, .slice Option.none 0 0, .slice Option.none 0 0, .int .i64 0, .int .i64 0] 36 (0, 0)) from A9.out)
  obtain ⟨qq0, qq1, qq2, qq3, qq4, qq5, qq6, qq7, qq8, qq9, qq10, qq11, qq12, qq13, qq14, qq15, qq16⟩ := cells17 (show w9.heap[w.heap.size]? = some (.cells #[.slice Option.none 0 0, .bool false, .string ⟨#[]⟩, .int .i64 0, .string ⟨#[]⟩, .int .i64 0, .int .i64 0, .int .i64 0, .string ⟨#[]⟩, .string ⟨#[]⟩, .slice Option.none 0 0, .slice Option.none 0 0, .int .i64 0, .slice Option.none 0 0, .slice Option.none 0 0, .int .i64 0, .int .i64 0] 36 (0, 0)) from A9.out)
  obtain ⟨f0, f1, f2, f3, f4, f5, f6, f7, f8, f9, f10, f11, f12, f13, f14, f15, f16⟩ := frozen17 (show w9.drew.heap[w.heap.size]? = some (.cells (Qm.z 0).c 36 (0, 0)) from A9.out)
  obtain ⟨ff0, ff1, ff2, ff3, ff4, ff5, ff6, ff7, ff8, ff9, ff10, ff11, ff12, ff13, ff14, ff15, ff16⟩ := frozen17 (show w9.heap[w.heap.size]? = some (.cells (Qm.z 0).c 36 (0, 0)) from A9.out)
  go_wp2_with fail
  simp only [World.setCells, zl17, Nat.zero_add, Nat.reduceAdd] at HB HF1
  go_region
  all_goals
    go_wp2_with fail
    try simp only [drew_setCell]
    try simp (config := { decide := false }) only [Act.put, List.getElem_toArray, List.getElem_cons_succ, List.getElem_cons_zero, List.setIfInBounds_toArray, List.set_cons_succ, List.set_cons_zero]
    exact bodyPost_ret (results_qm3 (p := 2) (u := 3) (v := 4) rfl _ _ w.heap.size (Qm.z 0) rfl HB.out) rfl ⟨HF1.out, .inl ⟨p0, c0, HY.out, rfl⟩⟩
theorem parse_any (G : Nat) (n g m l : Addr) (s : ByteArray) (w : World) (hE : LxEnv G n g m l w) : Calls Tryz.prog 10 #[.string s] w (ParseIs s w) := by
  rcases queryL_nil s with ⟨p, c, h⟩ | ⟨y, h⟩
  · exact parse_bad G n g m l s w hE p c h
  · exact parse_ok G n g m l s w hE y h
end Go.Proofs.YtjaclmoobfeikaaGreatDoor
