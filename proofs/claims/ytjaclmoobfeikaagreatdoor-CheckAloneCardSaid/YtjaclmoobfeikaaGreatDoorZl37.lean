/- The kinds of columns and items. schema.Find and Column; the kinds of columns and items. slices.Compact at kinds: how many are left; the literals of a predicate. -/
import Derived.Test.YtjaclmoobfeikaaGreatDoorZl36
import Derived.Test.YtjaclmoobfeikaaGreatDoorZl25
import Derived.Test.YtjaclmoobfeikaaGreatDoorZl24
import Derived.Deep.LoopGhost
namespace Go.Proofs.YtjaclmoobfeikaaGreatDoor
open Go.RowKit

set_option maxHeartbeats 1600000 in
theorem column_any (N : ByteArray) (K : Int) (a : Option Addr) (cap : Nat) (l : List Cl) (M : ByteArray) (w : World) (h : ColsAt w.heap.size w a l) :
    Calls Tryz.prog 124 #[.agg #[.string N, .slice a l.length cap, .int .i64 K], .string M] w fun e w' => ((e = .returned (.tuple #[.int .i64 0, .int .i64 15]) ∧ colK l M = none) ∨ ∃ k : Nat, e = .returned (.tuple #[.int .i64 k, .int .i64 0]) ∧ k < l.length ∧ colK l M = some (l.getD k default).k) ∧ w.grownBy w' none := by
  have G0 := Lib.hid (fun T => World.grownBy_alloc w (.cells #[.string N, .slice a l.length cap, .int .i64 K] T) none)
  have HC := Lib.hid (fun T => columnOf_any a cap l M _ ⟨h.1, ((h.keep ((G0.out T)) (by simp)).2.imp id fun ⟨b, off, e, hlt, hc⟩ => ⟨b, off, e, (by have := (G0.out T).size; omega), hc⟩)⟩)
  obtain ⟨n, hn⟩ : ∃ n, n = l.length := ⟨_, rfl⟩
  have Hn := Lib.hid hn
  rw [← hn] at HC G0 ⊢
  clear h hn
  go_enter Tryz.func124, Tryz.ntmps124
  go_wp2_with fail
  refine (HC.out _).mono ?_
  rintro e w2 ⟨⟨r, rfl, hr⟩, hg⟩
  have G2 := Lib.hid ((G0.out _).trans hg)
  clear hg HC G0
  rcases colK_of hr with ⟨rfl, hN⟩ | ⟨k, rfl, hk, hN⟩
  · have HN := Lib.hid hN
    clear hN hr
    go_wp2_with fail
    exact bodyPost_ret (v := .tuple #[.int .i64 0, .int .i64 15]) (by simp [results, Tryz.results124, go_sem]) rfl ⟨.inl ⟨rfl, HN.out⟩, G2.out⟩
  · have HN := Lib.hid (And.intro hk hN)
    clear hN hr hk
    go_wp2_with fail
    exact bodyPost_ret (v := .tuple #[.int .i64 (k : Nat), .int .i64 0]) (by simp [results, Tryz.results124, go_sem]) rfl ⟨.inr ⟨k, rfl, (by rw [Hn.out]; exact HN.out.1), HN.out.2⟩, G2.out⟩
set_option maxHeartbeats 1600000 in
/-- A column's kind, if it is there. -/
theorem columnKind_any (G : Nat) (f : Nat → Addr) (N : ByteArray) (K : Int) (a : Option Addr) (cap : Nat) (l : List Cl) (M : ByteArray) (w : World) (h : ColsAt w.heap.size w a l) (hE : CkEnv G f w) :
    Calls Tryz.prog 107 #[.agg #[.string N, .slice a l.length cap, .int .i64 K], .string M] w fun e w' => ((e = .returned (.tuple #[.int .i64 0, ckV f 15]) ∧ colK l M = none) ∨ ∃ k, e = .returned (.tuple #[.int .i64 k, .nilIface]) ∧ colK l M = some k) ∧ w.grownBy w' none := by
  have hA : ∀ W, w.grownBy W none → ColsAt W.heap.size W a l := fun W hW => (h.keep hW (by simp)).mono hW.size
  have HA := Lib.hid hA
  have HC := Lib.hid (fun W hW => column_any N K a cap l M W (hA W hW))
  have HE := Lib.hid hE
  obtain ⟨n, hn⟩ : ∃ n, n = l.length := ⟨_, rfl⟩
  have Hn := Lib.hid hn
  have hlen := h.1
  rw [← hn] at HC hlen ⊢
  have G0 := Lib.hid (World.grownBy_alloc w (.cells #[.string N, .slice a n cap, .int .i64 K] 44) none)
  have B0 := heap_alloc_new w (.cells #[.string N, .slice a n cap, .int .i64 K] 44)
  have e1 := cell_of_row _ _ 1 _ _ _ B0
  have E1 := Lib.hid e1
  clear h hn hA hE
  go_enter Tryz.func107, Tryz.ntmps107
  go_wp2_with fail
  refine (HC.out _ G0.out).mono ?_
  rintro e w2 ⟨hr, hg⟩
  have G2 := Lib.hid (G0.out.trans hg)
  have e1' := hg.cell E1.out (by simp)
  clear hg B0 e1
  rcases hr with ⟨rfl, hN⟩ | ⟨k, rfl, hk, hN⟩
  · have HN := Lib.hid hN
    have cv := (HE.out.keep G2.out).s15.var
    clear hN
    go_wp2_with fail
    go_quiet (fail)
    go_wp2_with fail
    exact bodyPost_ret (v := .tuple #[.int .i64 0, ckV f 15]) (by simp [results, Tryz.results107, go_sem, ckV]) rfl ⟨.inl ⟨rfl, HN.out⟩, grown_drewNT G2.out _⟩
  · obtain ⟨b, off, ha, _, c0, c1, c2⟩ := (HA.out _ G2.out).at (i := k) (by rw [← Hn.out]; exact hk)
    subst ha
    have HN := Lib.hid hN
    obtain ⟨x, hx⟩ : ∃ x, x = l.getD k default := ⟨_, rfl⟩
    rw [← hx] at c0 c1 c2 HN
    obtain ⟨xn, xk, xb⟩ := x
    clear hN hx
    go_wp2_with fail
    exact bodyPost_ret (v := .tuple #[.int .i64 xk, .nilIface]) (by simp [results, Tryz.results107, go_sem]) rfl ⟨.inr ⟨xk, rfl, HN.out⟩, G2.out⟩
theorem ckE_no (f : Nat → Addr) : ckE f 0 = .nilIface := rfl
set_option maxHeartbeats 1600000 in
theorem kindOf_any (G : Nat) (f : Nat → Addr) (N : ByteArray) (K : Int) (a : Option Addr) (cap : Nat) (l : List Cl) (x : Itm) (w : World) (h : ColsAt w.heap.size w a l) (hE : CkEnv G f w) :
    Calls Tryz.prog 105 #[.agg #[.string N, .slice a l.length cap, .int .i64 K], .agg x.c.toArray] w fun e w' => (∃ k, e = .returned (.tuple #[.int .i64 k, ckE f (itemE l x)])) ∧ w.grownBy w' none := by
  obtain ⟨xa, xc, xp⟩ := x
  have HC := Lib.hid (fun W (hW : w.grownBy W none) => columnKind_any G f N K a cap l xc W ((h.keep hW (by simp)).mono hW.size) (hE.keep hW))
  have HE := Lib.hid hE
  obtain ⟨E, hEq⟩ : ∃ E, E = itemE l ⟨xa, xc, xp⟩ := ⟨_, rfl⟩
  rw [← hEq]
  unfold itemE at hEq
  dsimp only at hEq
  have HQ := Lib.hid hEq
  obtain ⟨n, hn⟩ : ∃ n, n = l.length := ⟨_, rfl⟩
  rw [← hn] at HC ⊢
  have G0 := Lib.hid ((World.grownBy_alloc w (.cells #[.string N, .slice a n cap, .int .i64 K] 44) none).trans (World.grownBy_alloc _ (.cells #[.int .i64 (xa : Int), .string xc, .int .i64 (xp : Int)] 65) none))
  have B0 := heap_alloc_new (w.alloc (.cells #[.string N, .slice a n cap, .int .i64 K] 44)) (.cells #[.int .i64 (xa : Int), .string xc, .int .i64 (xp : Int)] 65)
  rw [show (w.alloc (.cells #[.string N, .slice a n cap, .int .i64 K] 44)).heap.size = w.heap.size + 1 by simp] at B0
  have e0 := cell_of_row _ _ 0 _ _ _ B0
  have e1 := cell_of_row _ _ 1 _ _ _ B0
  have E0 := Lib.hid e0
  show Calls Tryz.prog 105 #[.agg #[.string N, .slice a n cap, .int .i64 K], .agg #[.int .i64 (xa : Int), .string xc, .int .i64 (xp : Int)]] w _
  clear h hE hEq hn B0
  by_cases h1 : xa = 1
  · have HF : Hid (E = 0) := Lib.hid (by rw [HQ.out, if_pos h1])
    subst h1
    clear HQ
    go_enter Tryz.func105, Tryz.ntmps105
    go_wp2_with fail
    exact bodyPost_ret (v := .tuple #[.int .i64 2, .nilIface]) (by simp [results, Tryz.results105, go_sem]) rfl ⟨⟨_, by rw [HF.out]; rfl⟩, G0.out⟩
  have q1 : ((xa : Int) == 1) = false := by rw [beq_eq_false_iff_ne]; omega
  have H1 := Lib.hid h1
  clear h1
  go_enter Tryz.func105, Tryz.ntmps105
  go_wp2_with fail
  refine (HC.out _ G0.out).mono ?_
  rintro e w2 ⟨hr, hg⟩
  have G2 := Lib.hid (G0.out.trans hg)
  have d0 := hg.cell E0.out (by simp)
  clear hg e0 e1
  rcases hr with ⟨rfl, hN⟩ | ⟨k, rfl, hN⟩
  · have HF : Hid (E = 15) := Lib.hid (by rw [HQ.out, if_neg H1.out, hN])
    unfold ckV
    clear hN HQ
    go_wp2_with fail
    exact bodyPost_ret (v := .tuple #[.int .i64 0, ckV f 15]) (by simp [results, Tryz.results105, go_sem, ckV]) rfl ⟨⟨_, by rw [HF.out]; rfl⟩, G2.out⟩
  · have HN := Lib.hid hN
    clear hN
    by_cases h3 : xa = 3
    · subst h3
      have cv := (HE.out.keep G2.out).s16.var
      by_cases h2 : k = 2
      · have HF : Hid (E = 0) := Lib.hid (by rw [HQ.out, if_neg H1.out, HN.out]; simp only []; rw [if_neg (fun h => h.2 h2)])
        subst h2
        clear HQ
        go_wp2_with fail
        exact bodyPost_ret (v := .tuple #[.int .i64 2, .nilIface]) (by simp [results, Tryz.results105, go_sem]) rfl ⟨⟨_, by rw [HF.out]; rfl⟩, G2.out⟩
      · have q2 : (k != 2) = true := by simpa using h2
        have HF : Hid (E = 16) := Lib.hid (by rw [HQ.out, if_neg H1.out, HN.out]; simp only []; rw [if_pos ⟨trivial, h2⟩])
        clear h2 HQ
        go_wp2_with fail
        exact bodyPost_ret (v := .tuple #[.int .i64 2, ckV f 16]) (by simp [results, Tryz.results105, go_sem, ckV]) rfl ⟨⟨_, by rw [HF.out]; rfl⟩, G2.out⟩
    · have q3 : ((xa : Int) == 3) = false := by rw [beq_eq_false_iff_ne]; omega
      have HF : Hid (E = 0) := Lib.hid (by rw [HQ.out, if_neg H1.out, HN.out]; simp only []; rw [if_neg (fun h => h3 h.1)])
      clear h3 HQ
      by_cases h2 : xa = 2
      · subst h2
        go_wp2_with fail
        exact bodyPost_ret (v := .tuple #[.int .i64 2, .nilIface]) (by simp [results, Tryz.results105, go_sem]) rfl ⟨⟨_, by rw [HF.out]; rfl⟩, G2.out⟩
      · have q2 : ((xa : Int) == 2) = false := by rw [beq_eq_false_iff_ne]; omega
        clear h2
        go_wp2_with fail
        exact bodyPost_ret (v := .tuple #[.int .i64 k, .nilIface]) (by simp [results, Tryz.results105, go_sem]) rfl ⟨⟨_, by rw [HF.out]; rfl⟩, G2.out⟩
set_option maxHeartbeats 3200000 in
theorem items_any (G : Nat) (f : Nat → Addr) (N : ByteArray) (K : Int) (a : Option Addr) (cap : Nat) (cs : List Cl) (S : Nat → Prop) (ia : Option Addr) (ic : Nat) (l : List Itm) (w : World) (h : ColsAt w.heap.size w a cs) (hi : CellsS S w ia (l.flatMap Itm.c)) (hl : l.length ≤ 1000) (hE : CkEnv G f w) :
    Calls Tryz.prog 80 #[.agg #[.string N, .slice a cs.length cap, .int .i64 K], .slice ia l.length ic] w fun e w' => e = .returned (fltV f (itemsE cs l)) ∧ w.grownBy w' none := by
  have HC := Lib.hid (fun x W (hW : w.grownBy W none) => kindOf_any G f N K a cap cs x W ((h.keep hW (by simp)).mono hW.size) (hE.keep hW))
  have H := Lib.hid (fun W (hW : w.grownBy W none) => hi.keep (.of hW))
  obtain ⟨m, hm⟩ : ∃ m, m = cs.length := ⟨_, rfl⟩
  obtain ⟨n, hn⟩ : ∃ n, n = l.length := ⟨_, rfl⟩
  have Hn := Lib.hid hn
  rw [← hm] at HC ⊢
  rw [← hn] at hl ⊢
  have G0 := Lib.hid (World.grownBy_alloc w (.cells #[.string N, .slice a m cap, .int .i64 K] 44) none)
  have B0 := Lib.hid (heap_alloc_new w (.cells #[.string N, .slice a m cap, .int .i64 K] 44))
  obtain ⟨R, hR⟩ : ∃ R, R = itemsE cs l := ⟨_, rfl⟩
  rw [← hR]
  have HR : Hid (firstE Itm.pos (itemE cs) (l.drop 0) = R) := Lib.hid (by rw [hR]; rfl)
  clear h hi hE hm hn hR
  go_enter Tryz.func80, Tryz.ntmps80
  go_wp2_with fail
  go_loopw [11] (fun s11 wr => ∃ (k : Nat), s11 = .int .i64 k ∧ k ≤ n ∧ Hid (firstE Itm.pos (itemE cs) (l.drop k) = R ∧ w.grownBy wr none ∧ wr.heap[w.heap.size]? = some (.cells #[.string N, .slice a m cap, .int .i64 K] 44 (0, 0)))) (fun s11 _ => n - (intOf s11).toNat)
  case atStart => exact ⟨0, rfl, by omega, Lib.hid ⟨HR.out, G0.out, B0.out⟩⟩
  case round =>
    obtain ⟨k, rfl, hk, Q⟩ := hrel
    by_cases hlt : k < n
    · obtain ⟨b, off, rfl, _, _, hc⟩ := (H.out _ Q.out.2.1).elem Itm.c_len (by decide) (i := k) (by rw [← Hn.out]; exact hlt)
      obtain ⟨x, hx⟩ : ∃ x, x = l.getD k default := ⟨_, rfl⟩
      have hD := firstE_drop Itm.pos (itemE cs) l k (by rw [← Hn.out]; exact hlt)
      rw [Q.out.1, ← hx] at hD
      rw [← hx] at hc
      have HD := Lib.hid hD
      have HC1 := Lib.hid (HC.out x)
      obtain ⟨xa, xc, xp⟩ := x
      have c0 := hc 0 _ rfl
      have c1 := hc 1 _ rfl
      have c2 := hc 2 _ rfl
      rw [Nat.add_zero] at c0
      have G1 := Lib.hid (World.grownBy_alloc wr (.cells #[.int .i64 (xa : Int), .string xc, .int .i64 (xp : Int)] 65) none)
      have BX := Lib.hid (heap_alloc_new wr (.cells #[.int .i64 (xa : Int), .string xc, .int .i64 (xp : Int)] 65))
      have t3 := blk_grown G1.out Q.out.2.2
      have t0 := cell_of_row _ _ 0 _ _ _ t3
      have t1 := cell_of_row _ _ 1 _ _ _ t3
      have t2 := cell_of_row _ _ 2 _ _ _ t3
      simp only [List.getElem?_toArray, List.getElem?_cons_zero, List.getElem?_cons_succ] at t0 t1 t2
      replace HC1 : Hid (∀ W, w.grownBy W none → Calls Tryz.prog 105 #[.agg #[.string N, .slice a m cap, .int .i64 K], .agg #[.int .i64 (xa : Int), .string xc, .int .i64 (xp : Int)]] W fun e w' => (∃ k, e = .returned (.tuple #[.int .i64 k, ckE f (itemE cs ⟨xa, xc, xp⟩)])) ∧ W.grownBy w' none) := HC1
      obtain ⟨E, hE⟩ : ∃ E, E = itemE cs ⟨xa, xc, xp⟩ := ⟨_, rfl⟩
      rw [← hE] at HC1 HD
      clear hc hD hx t3 hE
      go_wp2_with fail
      refine (HC1.out _ (Q.out.2.1.trans G1.out)).mono ?_
      rintro e w3 ⟨⟨kd, rfl⟩, hg⟩
      have G3 := Lib.hid (Q.out.2.1.trans (G1.out.trans hg))
      have B3 := Lib.hid (blk_grown (G1.out.trans hg) Q.out.2.2)
      have x3 := blk_grown hg BX.out
      have p2 := cell_of_row _ _ 2 _ _ _ x3
      simp only [List.getElem?_toArray, List.getElem?_cons_zero, List.getElem?_cons_succ] at p2
      clear hg x3 t0 t1 t2 c0 c1 c2
      by_cases h0 : E = 0
      · subst h0
        rw [ckE_no]
        go_wp2_with fail
        go_roundw
        case rel => exact ⟨k + 1, by go_num, by omega, Lib.hid ⟨by simpa using HD.out.symm, G3.out, B3.out⟩⟩
        case measure => simp [intOf]; omega
      · rw [show ckE f E = ckV f E by unfold ckE; rw [if_neg h0]]
        have H0 := Lib.hid h0
        unfold ckV
        clear h0
        go_wp2_with fail
        go_ret
        refine ⟨?_, G3.out⟩
        have := HD.out
        rw [if_neg H0.out] at this
        rw [this]; rfl
    · obtain rfl : k = n := by omega
      go_wp2_with fail
      go_ret
      have := Q.out.1
      rw [List.drop_of_length_le (by rw [← Hn.out]; exact Nat.le_refl _)] at this
      exact ⟨by rw [← this]; rfl, Q.out.2.1⟩
end Go.Proofs.YtjaclmoobfeikaaGreatDoor
namespace Go.Proofs.YtjaclmoobfeikaaGreatDoor
open Go.RowKit

/-- What Find answers. -/
def FindIs (l : List Tb) (M : ByteArray) (w : World) (e : Ending) (w' : World) : Prop :=
  ((tabN l M = none ∧ e = .returned (.tuple #[.agg #[.string ⟨#[]⟩, .slice none 0 0, .int .i64 0], .int .i64 14])) ∨
    ∃ t a' cap', tabN l M = some t ∧ e = .returned (.tuple #[.agg #[.string t.n, .slice a' t.l.length cap', .int .i64 t.k], .int .i64 0]) ∧ t ∈ l ∧ t.l.length ≤ cap' ∧ ColsAt w'.heap.size w' a' t.l ∧ ∀ k, bk a' k → w.heap.size ≤ k) ∧ w.grownBy w' none
set_option maxRecDepth 100000 in
set_option maxHeartbeats 3200000 in
theorem find_any (a : Option Addr) (cap : Nat) (l : List Tb) (M : ByteArray) (w : World) (h : TabsAt w.heap.size w a l) (hs : ∀ t ∈ l, t.l.length ≤ 1000) :
    Calls Tryz.prog 45 #[.slice a l.length cap, .string M] w (FindIs l M w) := by
  have G0 := Lib.hid (World.grownBy_alloc w (.cells #[.string ⟨#[]⟩, .slice none 0 0, .int .i64 0] 44) none)
  have h0 : TabsAt (w.alloc (.cells #[.string ⟨#[]⟩, .slice none 0 0, .int .i64 0] 44)).heap.size (w.alloc (.cells #[.string ⟨#[]⟩, .slice none 0 0, .int .i64 0] 44)) a l := (h.keep G0.out (by simp)).mono (by simp)
  have HT := Lib.hid (tableOf_any a cap l M _ h0)
  have H := Lib.hid h
  have HS := Lib.hid hs
  have B0 := Lib.hid (heap_alloc_new w (.cells #[.string ⟨#[]⟩, .slice none 0 0, .int .i64 0] 44))
  obtain ⟨n, hn⟩ : ∃ n, n = l.length := ⟨_, rfl⟩
  have Hn := Lib.hid hn
  have hlen := h.1
  rw [← hn] at HT hlen ⊢
  clear h hs h0 hn
  go_enter Tryz.func45, Tryz.ntmps45
  go_wp2_with fail
  refine (HT.out).mono ?_
  rintro e w2 ⟨⟨r, rfl, hr⟩, hg⟩
  have G2 := Lib.hid (G0.out.trans hg)
  have B2 := Lib.hid (blk_grown hg B0.out)
  have l2 : w.heap.size < w2.heap.size := by have := hg.size; simp at this; omega
  clear HT hg
  rcases tabN_of hr with ⟨rfl, hN⟩ | ⟨k, rfl, hk, hN⟩
  · have HN := Lib.hid hN
    have c0 := cell_of_row _ _ 0 _ _ _ B2.out
    have c1 := cell_of_row _ _ 1 _ _ _ B2.out
    have c2 := cell_of_row _ _ 2 _ _ _ B2.out
    have f0 := frozen_of_row _ _ 0 _ _ B2.out
    have f1 := frozen_of_row _ _ 1 _ _ B2.out
    have f2 := frozen_of_row _ _ 2 _ _ B2.out
    have HR := Lib.hid (set3 (u0 := .string ⟨#[]⟩) (u1 := .slice none 0 0) (u2 := .int .i64 0) B2.out)
    have HG := Lib.hid (grown_set3 G2.out (Nat.le_refl w.heap.size) (.string ⟨#[]⟩) (.slice none 0 0) (.int .i64 0))
    clear hN hr
    go_wp2_with fail
    refine bodyPost_ret (v := .tuple #[.agg #[.string ⟨#[]⟩, .slice none 0 0, .int .i64 0], .int .i64 14]) ?_ rfl ⟨.inl ⟨HN.out, rfl⟩, HG.out⟩
    have hL := run_loadVar_row (P := Tryz.prog) _ w.heap.size 44 44 _ _ _ HR.out Tryz.underlying44 rfl (by kernel_rfl)
    simp [results, Tryz.f45, asAddr, hL]
  · obtain ⟨b, off, ha, hb, c0, c1, c2⟩ := (H.out.keep G2.out (by simp)).at (i := k) hk
    have hm : l.getD k default ∈ l := by rw [List.getD, List.getElem?_eq_getElem hk]; exact List.getElem_mem hk
    have hcs := HS.out _ hm
    have hcols := (H.out.keep G2.out (by simp)).2.1 _ hm
    subst ha
    obtain ⟨t, ht⟩ : ∃ t, t = l.getD k default := ⟨_, rfl⟩
    rw [← ht] at c0 c1 c2 hm hcs hcols hN
    have HM := Lib.hid (And.intro hm hN)
    have hkn : k < n := by rw [Hn.out]; exact hk
    have HC := Lib.hid (fun W (hW : w2.grownBy W none) => cloneCol_any (fun j => j < w.heap.size) t.a t.cap t.l W ((hcols.cellsC (by omega)).keep (.of hW)) hcs)
    obtain ⟨tn, ta, tc, tl, tk⟩ := t
    dsimp only at c0 c1 c2 HC hcs
    obtain ⟨m, hmm⟩ : ∃ m, m = tl.length := ⟨_, rfl⟩
    have Hm := Lib.hid hmm
    rw [← hmm] at c1 HC
    have GB := Lib.hid (World.grownBy_alloc w2 (.cells #[.string tn, .slice ta m tc, .int .i64 tk] 44) none)
    have BB := Lib.hid (heap_alloc_new w2 (.cells #[.string tn, .slice ta m tc, .int .i64 tk] 44))
    have hcl := hcols.1
    have HCL := Lib.hid hcl
    dsimp only at hcl
    clear hr hm hN ht hcols hmm hcl hk
    go_wp2_with fail
    refine (HC.out _ GB.out).mono ?_
    rintro e w3 ⟨⟨a', cap', rfl, hle, ho⟩, hg⟩
    have G3 := Lib.hid (GB.out.trans hg)
    have b3 := blk_grown hg BB.out
    have e0 := cell_of_row _ _ 0 _ _ _ b3
    have e2 := cell_of_row _ _ 2 _ _ _ b3
    have e1 := cell_of_row _ _ 1 _ _ _ b3
    have f1 := frozen_of_row _ _ 1 _ _ b3
    have B3 := Lib.hid (blk_grown G3.out B2.out)
    have O3 := Lib.hid ho
    have LE := Lib.hid hle
    have BB3 := Lib.hid b3
    clear hg ho b3 hle
    have hE0 : (w3.setCell ⟨w2.heap.size, 1, none⟩ (.slice a' m cap')).cell? ⟨w2.heap.size, 0, none⟩ = some (.string tn) := (World.cell?_setCell_other _ _ _ _ (by simp)).trans e0
    have hE1 : (w3.setCell ⟨w2.heap.size, 1, none⟩ (.slice a' m cap')).cell? ⟨w2.heap.size, 1, none⟩ = some (.slice a' m cap') := World.cell?_setCell_same _ _ _ (by rw [e1]; rfl)
    have hE2 : (w3.setCell ⟨w2.heap.size, 1, none⟩ (.slice a' m cap')).cell? ⟨w2.heap.size, 2, none⟩ = some (.int .i64 tk) := (World.cell?_setCell_other _ _ _ _ (by simp)).trans e2
    have B5 : Hid ((w3.setCell ⟨w2.heap.size, 1, none⟩ (.slice a' m cap')).heap[w.heap.size]? = some (.cells #[.string ⟨#[]⟩, .slice none 0 0, .int .i64 0] 44 (0, 0))) := Lib.hid (by
      rw [Below.heap_setCell _ _ _ _ (by simp; omega)]; exact B3.out)
    have g0 := cell_of_row _ _ 0 _ _ _ B5.out
    have g1 := cell_of_row _ _ 1 _ _ _ B5.out
    have g2 := cell_of_row _ _ 2 _ _ _ B5.out
    have h0 := frozen_of_row _ _ 0 _ _ B5.out
    have h1 := frozen_of_row _ _ 1 _ _ B5.out
    have h2 := frozen_of_row _ _ 2 _ _ B5.out
    have GA : Hid (w.grownBy (w3.setCell ⟨w2.heap.size, 1, none⟩ (.slice a' m cap')) none) := Lib.hid (grown_setnewX (G2.out.trans G3.out) (by omega) 1 _)
    have HR := Lib.hid (set3 (u0 := .string tn) (u1 := .slice a' m cap') (u2 := .int .i64 tk) B5.out)
    have HG := Lib.hid (grown_set3 GA.out (Nat.le_refl w.heap.size) (.string tn) (.slice a' m cap') (.int .i64 tk))
    have HW : Hid (ColsAt ((((w3.setCell ⟨w2.heap.size, 1, none⟩ (.slice a' m cap')).setCell ⟨w.heap.size, 0, none⟩ (.string tn)).setCell ⟨w.heap.size, 1, none⟩ (.slice a' m cap')).setCell ⟨w.heap.size, 2, none⟩ (.int .i64 tk)).heap.size ((((w3.setCell ⟨w2.heap.size, 1, none⟩ (.slice a' m cap')).setCell ⟨w.heap.size, 0, none⟩ (.string tn)).setCell ⟨w.heap.size, 1, none⟩ (.slice a' m cap')).setCell ⟨w.heap.size, 2, none⟩ (.int .i64 tk)) a' tl ∧ ∀ k, bk a' k → w.heap.size ≤ k) := Lib.hid (by
      obtain ⟨a2, cap2, hv, hw, hb⟩ := own_win O3.out
      cases hv
      have hlo : ∀ k, bk a' k → w2.heap.size + 1 ≤ k := fun k hk => by
        have := (World.ownsRow.lt O3.out k (hb k hk)).1
        simpa using this
      refine ⟨ColsAt.ofCells (S := fun j => w2.heap.size + 1 ≤ j) (by omega) ?_ (by simp), fun k hk => by have := hlo k hk; omega⟩
      exact ((win_cells (S := fun j => w2.heap.size + 1 ≤ j) hw hlo).keep (w' := w3.setCell ⟨w2.heap.size, 1, none⟩ (.slice a' m cap')) ⟨by simp, fun b hb _ => Below.heap_setCell _ _ _ _ (by simp; omega)⟩).keep ⟨by simp, fun b hb _ => by
        rw [Below.heap_setCell _ _ _ _ (by simp; omega), Below.heap_setCell _ _ _ _ (by simp; omega), Below.heap_setCell _ _ _ _ (by simp; omega)]⟩)
    go_wp2_with fail
    refine bodyPost_ret (v := .tuple #[.agg #[.string tn, .slice a' m cap', .int .i64 tk], .int .i64 0]) ?_ rfl ⟨.inr ⟨⟨tn, ta, tc, tl, tk⟩, a', cap', HM.out.2, by rw [Hm.out], HM.out.1, by rw [← Hm.out]; exact LE.out, HW.out.1, HW.out.2⟩, HG.out⟩
    have hL := run_loadVar_row (P := Tryz.prog) _ w.heap.size 44 44 _ _ _ HR.out Tryz.underlying44 rfl (by kernel_rfl)
    simp [results, Tryz.f45, asAddr, hL]
end Go.Proofs.YtjaclmoobfeikaaGreatDoor
namespace Go.Proofs.YtjaclmoobfeikaaGreatDoor
open Go.RowKit

theorem kind_info : (Tryz.prog.info? 27).map (fun i => (i.zero, i.size, i.bytes)) = some (some (.int .i64 0), 1, 8) := by kernel_rfl
theorem kind_el : ElT 209 27 (.int .i64 0) 1 8 := ⟨Tryz.underlying209, info_partsT kind_info, by decide, by decide, by decide⟩
def kiV (l : List Int) : List Value := l.map (Value.int .i64)
theorem kiV_at (l : List Int) (i : Nat) (h : i < l.length) : (kiV l)[i]? = some (.int .i64 (l.getD i 0)) := by
  unfold kiV
  rw [List.getElem?_map, List.getD_eq_getElem?_getD, List.getElem?_eq_getElem h]; rfl
/-- Kinds in memory, from a first one on as they were, the others whatever they are. -/
structure Kn (W : World) (g off cap n : Nat) (l : List Int) (q : Nat) : Prop where
  hl : n = l.length
  hc : n ≤ cap
  hm : cap ≤ maxLen
  hg : g < W.heap.size
  at' : ∀ j, q ≤ j → j < n → W.cell? ⟨g, off + j, none⟩ = some (.int .i64 (l.getD j 0))
  is' : ∀ j, j < cap → (W.cell? ⟨g, off + j, none⟩).isSome = true
  fr : ∀ o, W.frozen? ⟨g, o, none⟩ = false
theorem Kn.more {W : World} {g off cap n : Nat} {l : List Int} {q q' : Nat} (h : Kn W g off cap n l q) (hq : q ≤ q') : Kn W g off cap n l q' := ⟨h.hl, h.hc, h.hm, h.hg, fun j h1 h2 => h.at' j (by omega) h2, h.is', h.fr⟩
theorem Kn.keepG {W W' : World} {g off cap n : Nat} {l : List Int} {q : Nat} (h : Kn W g off cap n l q) (hg : W.grownBy W' none) : Kn W' g off cap n l q := by
  refine ⟨h.hl, h.hc, h.hm, Nat.lt_of_lt_of_le h.hg hg.size, fun j h1 h2 => hg.cell (h.at' j h1 h2) (by simp), fun j hj => ?_, fun o => (World.frozen?_of_block (a := ⟨g, o, none⟩) (hg.block g h.hg (by simp))).trans (h.fr o)⟩
  rw [World.cell?_of_block (a := ⟨g, off + j, none⟩) (hg.block g h.hg (by simp))]
  exact h.is' j hj
theorem addr_ne {g off i j : Nat} (h : i ≠ j) : (⟨g, off + i, none⟩ : Addr) ≠ ⟨g, off + j, none⟩ := fun e => h (by
  have := congrArg Addr.off e
  simpa using this)
theorem Kn.put {W : World} {g off cap n : Nat} {l : List Int} {q : Nat} (h : Kn W g off cap n l q) (d : Nat) (hd : d < q) (v : Value) : Kn (W.setCell ⟨g, off + d, none⟩ v) g off cap n l q := by
  refine ⟨h.hl, h.hc, h.hm, by simpa [World.setCell] using h.hg, fun j h1 h2 => ?_, fun j hj => ?_, fun o => by rw [World.frozen?_setCell]; exact h.fr o⟩
  · rw [World.cell?_setCell_other _ _ _ _ (addr_ne (by omega))]; exact h.at' j h1 h2
  · by_cases e : j = d
    · subst e
      obtain ⟨u, hu⟩ := Option.isSome_iff_exists.1 (h.is' j hj)
      rw [World.cell?_setCell_same _ _ _ hu]; rfl
    · rw [World.cell?_setCell_other _ _ _ _ (addr_ne (fun h => e h.symm))]; exact h.is' j hj
theorem kn_of_win {W : World} {a : Option Addr} {cap n : Nat} {l : List Int} (h : Win 1 W a cap n (kiV l)) (hn : n = l.length) (h0 : 0 < n) : ∃ g off, a = some ⟨g, off, none⟩ ∧ Kn W g off cap n l 0 := by
  rcases h.mem with e | ⟨g, off, e, hc, hs, hf⟩
  · have := h.le; omega
  · exact ⟨g, off, e, hn, h.le, h.max, h.lt g (by rw [e, bk_some]), fun j _ hj => hc j _ (kiV_at l j (by omega)), fun j hj => hs j (by omega), hf⟩
/-- Two that stand beside each other differ, from p on, ahead of q. -/
def Diffs (l : List Int) (p q : Nat) : Prop := ∃ i, p ≤ i ∧ i + 1 < q ∧ l.getD i 0 ≠ l.getD (i + 1) 0
theorem Diffs.step {l : List Int} {p q : Nat} (hp : p + 1 ≤ q) : Diffs l p (q + 1) ↔ Diffs l p q ∨ l.getD (q - 1) 0 ≠ l.getD q 0 := by
  constructor
  · rintro ⟨i, h1, h2, h3⟩
    by_cases e : i = q - 1
    · right; rw [e, show q - 1 + 1 = q by omega] at h3; exact h3
    · exact .inl ⟨i, h1, by omega, h3⟩
  · rintro (⟨i, h1, h2, h3⟩ | h)
    · exact ⟨i, h1, by omega, h3⟩
    · exact ⟨q - 1, by omega, by omega, by rw [show q - 1 + 1 = q by omega]; exact h⟩
theorem Diffs.none {l : List Int} {p q : Nat} (h : q ≤ p + 1) : ¬ Diffs l p q := fun ⟨i, h1, h2, _⟩ => by omega
set_option maxRecDepth 100000 in
set_option maxHeartbeats 3200000 in
theorem compactK_any (a : Option Addr) (cap n : Nat) (l : List Int) (w : World) (h : Win 1 w a cap n (kiV l)) (hn : n = l.length) :
    Calls Tryz.prog 123 #[.slice a n cap] w fun e w' => (∃ a' d, e = .returned (.slice a' d cap) ∧ (1 < d ↔ clashB l = true)) ∧ Only (bk a) w w' := by
  have HN := Lib.hid hn
  by_cases h2 : n < 2
  · have HF : Hid (clashB l = false) := Lib.hid (by
      rcases l with _ | ⟨x, _ | ⟨y, r⟩⟩
      · rfl
      · rfl
      · simp at hn; omega)
    clear h hn
    go_enter Tryz.func123, Tryz.ntmps123
    go_wp2_with fail
    go_ret
    exact ⟨⟨a, n, rfl, by rw [HF.out]; constructor <;> intro h <;> first | omega | cases h⟩, Only.refl _ _⟩
  · obtain ⟨g, off, rfl, hk⟩ := kn_of_win h hn (by omega)
    have HK := Lib.hid hk
    have h63 := Nat.le_trans hk.hc hk.hm
    have hcc := hk.hc
    unfold maxLen at h63
    have HI : Hid (clashB l = true ↔ ∃ i, i + 1 < l.length ∧ l.getD i 0 ≠ l.getD (i + 1) 0) := Lib.hid (clashB_iff l)
    clear h hn hk
    go_enter Tryz.func123, Tryz.ntmps123
    go_wp2_with fail
    go_loopg [3] n (fun μ s3 wr => ∃ (k : Nat), s3 = .int .i64 k ∧ 1 ≤ k ∧ k ≤ n ∧ n - k ≤ μ ∧ Hid (Kn wr g off cap n l 0 ∧ w.grownBy wr none ∧ ∀ i, i + 1 < k → l.getD i 0 ≠ l.getD (i + 1) 0))
    case atStart => exact ⟨1, rfl, by omega, by omega, by omega, Lib.hid ⟨HK.out, grown_reflT _ _, fun i hi => by omega⟩⟩
    case round =>
      obtain ⟨k, rfl, hk1, hk, hμ, Q⟩ := hrel
      by_cases hlt : k < n
      · obtain ⟨p, rfl⟩ : ∃ p, k = p + 1 := ⟨k - 1, by omega⟩
        have c1 := Q.out.1.at' (p + 1) (by omega) hlt
        have c0 := Q.out.1.at' p (by omega) (by omega)
        obtain ⟨x, hx⟩ : ∃ x, x = l.getD (p + 1) 0 := ⟨_, rfl⟩
        obtain ⟨y, hy⟩ : ∃ y, y = l.getD p 0 := ⟨_, rfl⟩
        rw [← hx] at c1
        rw [← hy] at c0
        have HX := Lib.hid (And.intro hx hy)
        have hp : p < n := by omega
        have hck : ¬ cap = p + 1 := by omega
        clear hx hy
        by_cases he : x = y
        · subst he
          go_wp2_with fail
          go_region
          go_wp2_with fail
          generalize wr = wa at *
          have HD : Hid (x = l.getD (p + 1) 0 ∧ x = l.getD p 0) := HX
          clear c1 c0
          go_loopg [3, 5] n (fun μ s3 s5 wr2 => ∃ (d r : Nat), s3 = .int .i64 d ∧ s5 = .int .i64 (r + 1 : Nat) ∧ p + 1 + (r + 1) ≤ n ∧ p + 1 ≤ d ∧ d < p + 1 + (r + 1) ∧ n - (p + 1 + (r + 1)) ≤ μ ∧ Hid (Kn wr2 g off cap n l (p + 1 + r) ∧ Only (bk (some ⟨g, off, none⟩)) w wr2 ∧ (p + 1 < d ↔ Diffs l p (p + 1 + (r + 1)))))
          case atStart => exact ⟨p + 1, 0, by go_num, rfl, by omega, by omega, by omega, by omega, Lib.hid ⟨(Q.out.1.keepG (grown_drewT (grown_reflT _ _))).more (by omega), .of_none (grown_drewT Q.out.2.1), by
            rw [Diffs.step (by omega)]
            constructor
            · intro h; omega
            · rintro (h | h)
              · exact absurd h (Diffs.none (by omega))
              · exact absurd (HD.out.2.symm.trans HD.out.1) (by simpa using h)⟩⟩
          case round =>
            obtain ⟨d, r, rfl, rfl, hr, hd1, hd2, hμ2, R⟩ := hrel
            by_cases hlt2 : p + 1 + (r + 1) < n
            · have c1 := R.out.1.at' (p + 1 + (r + 1)) (by omega) hlt2
              have c0 := R.out.1.at' (p + 1 + r) (by omega) (by omega)
              obtain ⟨x2, hx⟩ : ∃ x, x = l.getD (p + 1 + (r + 1)) 0 := ⟨_, rfl⟩
              obtain ⟨y2, hy⟩ : ∃ y, y = l.getD (p + 1 + r) 0 := ⟨_, rfl⟩
              rw [← hx, ← Nat.add_assoc off] at c1
              rw [← hy, ← Nat.add_assoc off] at c0
              have HX2 := Lib.hid (And.intro hx hy)
              obtain ⟨od, ho⟩ := Option.isSome_iff_exists.1 (R.out.1.is' d (by omega))
              have hfr := R.out.1.fr (off + d)
              have i1 : ((r + 1 : Nat) : Int) < ((n - (p + 1) : Nat) : Int) := by omega
              have i2 : (r : Int) < ((n - (p + 1) : Nat) : Int) := by omega
              have i3 : (d : Int) < n := by omega
              clear hx hy
              by_cases he : x2 = y2
              · subst he
                go_wp2_with fail
                go_region
                go_wp2_with fail
                go_roundg (n - (p + 1 + (r + 1 + 1)))
                case measure => omega
                case rel => exact ⟨d, r + 1, rfl, by go_num, by omega, by omega, by omega, by omega, Lib.hid ⟨(R.out.1.keepG (grown_drewT (grown_reflT _ _))).more (by omega), R.out.2.1.trans (.of_none (M := fun _ => False) (grown_drewT (grown_reflT _ _))) (fun _ h => h.elim), by
                  rw [R.out.2.2, show p + 1 + (r + 1 + 1) = p + 1 + (r + 1) + 1 by omega, Diffs.step (q := p + 1 + (r + 1)) (by omega), show p + 1 + (r + 1) - 1 = p + 1 + r by omega, ← HX2.out.1, ← HX2.out.2]
                  simp⟩⟩
              · have hb : (x2 != y2) = true := by simpa using he
                have HE := Lib.hid he
                clear he
                go_wp2_with fail
                go_region
                go_wp2_with fail
                go_roundg (n - (p + 1 + (r + 1 + 1)))
                case measure => omega
                case rel => exact ⟨d + 1, r + 1, by go_num, by go_num, by omega, by omega, by omega, by omega, Lib.hid ⟨((R.out.1.keepG (grown_drewT (grown_reflT _ _))).more (q' := p + 1 + (r + 1)) (by omega)).put d (by omega) _, (R.out.2.1.trans (.of_none (M := fun _ => False) (grown_drewT (grown_reflT _ _))) (fun _ h => h.elim)).set (.inl (by rw [bk_some])) _ _, by
                  rw [show p + 1 + (r + 1 + 1) = p + 1 + (r + 1) + 1 by omega, Diffs.step (q := p + 1 + (r + 1)) (by omega), show p + 1 + (r + 1) - 1 = p + 1 + r by omega, ← HX2.out.1, ← HX2.out.2]
                  exact ⟨fun _ => .inr (fun e => HE.out e.symm), fun _ => by omega⟩⟩⟩
            · have hcl : ∀ ty, (Builtin.clear_ #[209] ty #[.slice (some ⟨g, off + d, none⟩) (n - d) (cap - d)]).run Tryz.prog wr = .ok (.tuple #[]) (wr.setCells g (off + d) (List.replicate (n - d) (.int .i64 0))) :=
                fun ty => Lib.run_clear_slice wr _ _ ty _ Tryz.underlying209 Tryz.zeroValue27 rfl rfl g (off + d) _ _ (by omega) (fun j hj => by rw [Nat.add_assoc]; exact R.out.1.is' _ (by omega)) (fun j hj => R.out.1.fr _)
              have hdn : ¬ cap = d := by omega
              have i3 : (d : Int) ≤ n := by omega
              go_wp2_with fail
              go_ret
              refine ⟨⟨_, d, rfl, ?_⟩, R.out.2.1.trans ((only_setCells g _ _ wr).mono (fun k _ e => by rw [bk_some]; exact e)) (fun _ h => .inl h)⟩
              have hR := R.out.2.2
              have hN := HN.out
              rw [show p + 1 + (r + 1) = n by omega] at hR
              rw [HI.out]
              by_cases hp0 : p = 0
              · subst hp0
                rw [show (1 < d ↔ 0 + 1 < d) from by simp, hR]
                exact ⟨fun ⟨i, _, h2, h3⟩ => ⟨i, by omega, h3⟩, fun ⟨i, h2, h3⟩ => ⟨i, by omega, by omega, h3⟩⟩
              · exact ⟨fun _ => ⟨0, by omega, Q.out.2.2 0 (by omega)⟩, fun _ => by omega⟩
        · have hb : (x == y) = false := by rw [beq_eq_false_iff_ne]; exact he
          have HE := Lib.hid he
          clear he
          go_wp2_with fail
          go_region
          go_wp2_with fail
          go_roundg (n - (p + 1 + 1))
          case measure => omega
          case rel => exact ⟨p + 1 + 1, by go_num, by omega, by omega, by omega, Lib.hid ⟨Q.out.1.keepG (grown_drewT (grown_reflT _ _)), grown_drewT Q.out.2.1, fun i hi => by
            by_cases e : i = p
            · subst e
              rw [← HX.out.1, ← HX.out.2]
              exact fun e => HE.out e.symm
            · exact Q.out.2.2 i (by omega)⟩⟩
      · obtain rfl : k = n := by omega
        go_wp2_with fail
        go_ret
        refine ⟨⟨_, k, rfl, ?_⟩, Only.of_none Q.out.2.1⟩
        rw [HI.out]
        exact ⟨fun _ => ⟨0, by have := HN.out; omega, Q.out.2.2 0 (by omega)⟩, fun _ => by omega⟩
end Go.Proofs.YtjaclmoobfeikaaGreatDoor
