/- Layer 12's fixed fact. -/
import Derived.Test.YtjaclmoobfeikaaGreatDoorZl42
namespace Go.Proofs.YtjaclmoobfeikaaGreatDoor
open Go.RowKit

/-- A text's query upon the laws' catalog. -/
def ckC (s : ByteArray) : Except (Nat × Nat) Qry := match parseL s with
  | .error e => .error e
  | .ok q => if ((⟨#[116]⟩ : ByteArray).toList == q.table.toList) = true then (match reviewE catC q with
    | some e => .error e
    | none => .ok (q.spelt catC)) else .error (0, 14)
theorem ckL_cat (s : ByteArray) (a : Ptr) : ckL s [catT a] = ckC s := by
  unfold ckL ckC
  cases parseL s with
  | error e => rfl
  | ok q =>
    show checkE [catT a] q = _
    unfold checkE tabN
    rw [List.find?_cons]
    simp only [catT]
    cases h : ((⟨#[116]⟩ : ByteArray).toList == q.table.toList) with
    | true => rfl
    | false => rfl
def codeC (s : ByteArray) : Nat × Nat := match ckC s with
  | .error e => e
  | .ok _ => (0, 0)
def okC (s : ByteArray) : Option (Nat × Bool) := match ckC s with
  | .error _ => none
  | .ok q => some (q.items.length, q.all)
theorem lkC {s : ByteArray} {a : Ptr} {w w' : World} {e : Ending} (h : LkIs s [catT a] w e w') : w.grownBy w' none ∧ ∃ y : Qm, e = .returned (.tuple #[.agg y.c, .int .i64 ((codeC s).1 : Nat), .int .i64 ((codeC s).2 : Nat)]) ∧ ∀ k b, okC s = some (k, b) → y.items.length = k ∧ y.all = b := by
  refine ⟨h.1, ?_⟩
  rcases h.2 with ⟨p, h1, _, h3⟩ | ⟨y, h1, h2, _⟩
  · rw [ckL_cat] at h1
    refine ⟨Qm.z 0, ?_, fun k b hk => ?_⟩
    · rw [h3, show codeC s = p by unfold codeC; rw [h1]]
    · unfold okC at hk; rw [h1] at hk; cases hk
  · rw [ckL_cat] at h1
    refine ⟨y, ?_, fun k b hk => ?_⟩
    · rw [h2, show codeC s = (0, 0) by unfold codeC; rw [h1]]; rfl
    · unfold okC at hk; rw [h1] at hk
      simp only [Option.some.injEq, Prod.mk.injEq] at hk
      exact hk
theorem catC_few (a : Ptr) : ∀ t ∈ [catT a], t.l.length ≤ 1000 := fun t ht => by
  obtain rfl : t = catT a := by simpa using ht
  show 4 ≤ 1000
  decide
/-- What the laws' checked answers at a text upon the laws' catalog. -/
theorem lawC_any (G G2 : Nat) (n g m l : Addr) (f : Nat → Addr) (s : ByteArray) (a b : Option Addr) (w : World) (h : TabsAt w.heap.size w b [catT a]) (hE : LxEnv G n g m l w) (hF : CkEnv G2 f w) :
    Calls Tryz.prog 8 #[.string s, .slice b 1 1] w fun e w' => w.grownBy w' none ∧ ∃ y : Qm, e = .returned (.tuple #[.agg y.c, .int .i64 ((codeC s).1 : Nat), .int .i64 ((codeC s).2 : Nat)]) ∧ ∀ k b, okC s = some (k, b) → y.items.length = k ∧ y.all = b :=
  (lawChecked_any G G2 n g m l f s b 1 [catT a] w h (catC_few a) hE hF).mono fun _ _ h => lkC h
theorem put_qm (w : World) (x : Qm) : w.grownBy ((w.alloc (.cells (Qm.z 0).c 36)).setRow w.heap.size x.c) none ∧ ((w.alloc (.cells (Qm.z 0).c 36)).setRow w.heap.size x.c).heap[w.heap.size]? = some (.cells x.c 36 (0, 0)) :=
  ⟨grown_thenX (World.grownBy_alloc w (.cells (Qm.z 0).c 36) none) (grown_setRow _ w.heap.size x.c) (fun j e => by cases e; exact Nat.le_refl _), setRow_heap _ _ (Qm.z 0).c x.c _ _ (heap_alloc_new w _)⟩
def tx12_0 : ByteArray := ⟨#[83, 69, 76, 69, 67, 84, 32, 97, 32, 70, 82, 79, 77, 32, 116, 32, 87, 72, 69, 82, 69, 32, 98, 32, 60, 32, 53]⟩
def tx12_1 : ByteArray := ⟨#[83, 69, 76, 69, 67, 84, 32, 97, 44, 32, 67, 79, 85, 78, 84, 40, 42, 41, 32, 70, 82, 79, 77, 32, 116]⟩
def tx12_2 : ByteArray := ⟨#[83, 69, 76, 69, 67, 84, 32, 83, 85, 77, 40, 98, 41, 32, 70, 82, 79, 77, 32, 116]⟩
def tx12_3 : ByteArray := ⟨#[83, 69, 76, 69, 67, 84, 32, 42, 32, 70, 82, 79, 77, 32, 116]⟩
theorem code12 : (codeC tx12_0).2 = 16 ∧ (codeC tx12_1) = (7, 17) ∧ (codeC tx12_2).2 = 16 ∧ (codeC tx12_3).2 = 0 ∧ okC tx12_3 = some (4, true) := by decide +kernel
set_option maxRecDepth 100000 in
set_option maxHeartbeats 6400000 in
theorem awake12_any (G G2 : Nat) (n g m l : Addr) (f : Nat → Addr) (w : World) (hE : LxEnv G n g m l w) (hF : CkEnv G2 f w) : Calls Tryz.prog 6 #[] w fun e w' => e = .returned (.bool true) ∧ w.grownBy w' none := by
  have HT := Lib.hid catalogC_any
  have HC := Lib.hid (fun s a b W (hW : w.grownBy W none) (h : TabsAt W.heap.size W b [catT a]) => lawC_any G G2 n g m l f s a b W h (hE.keep hW) (hF.keep hW))
  have HP := Lib.hid put_qm
  have H0 := Lib.hid (HC.out tx12_0)
  have H1 := Lib.hid (HC.out tx12_1)
  have H2 := Lib.hid (HC.out tx12_2)
  have H3 := Lib.hid (HC.out tx12_3)
  obtain ⟨k0, k1, k2, k3, k4⟩ := code12
  rw [k0] at H0
  rw [k1] at H1
  rw [k2] at H2
  rw [k3] at H3
  have HK := Lib.hid k4
  unfold tx12_0 at H0
  unfold tx12_1 at H1
  unfold tx12_2 at H2
  generalize ((codeC tx12_3).1 : Nat) = p3 at H3
  have H3 : Hid (∀ a b W, w.grownBy W none → TabsAt W.heap.size W b [catT a] → Calls Tryz.prog 8 #[.string ⟨#[83, 69, 76, 69, 67, 84, 32, 42, 32, 70, 82, 79, 77, 32, 116]⟩, .slice b 1 1] W fun e w' => W.grownBy w' none ∧ ∃ y : Qm, e = .returned (.tuple #[.agg y.c, .int .i64 (p3 : Nat), .int .i64 0]) ∧ (y.items.length = 4 ∧ y.all = true)) := Lib.hid (fun a b W hW hT => (H3.out a b W hW hT).mono fun e w' h => ⟨h.1, h.2.elim fun y hy => ⟨y, hy.1, hy.2 4 true HK.out⟩⟩)
  clear hE hF k0 k1 k2 k3 k4 HC HK
  go_enter Tryz.func6, Tryz.ntmps6
  go_wp2_with fail
  refine (HT.out _).mono ?_
  rintro e u0 ⟨⟨a0, b0, rfl, ht⟩, hg⟩
  have HT0 := Lib.hid ht
  have G0 : Hid (w.grownBy u0 none) := Lib.hid (hg)
  clear ht hg
  go_wp2_with fail
  refine (H0.out a0 b0 _ G0.out HT0.out).mono ?_
  rintro e v0 ⟨hg, y0, rfl, hy⟩
  have B0 := Lib.hid (heap_alloc_new v0 (.cells (Qm.z 0).c 36))
  have P0 := HP.out v0 y0
  obtain ⟨W0, hW0⟩ : ∃ W, W = (v0.alloc (.cells (Qm.z 0).c 36)).setRow v0.heap.size y0.c := ⟨_, rfl⟩
  rw [← hW0] at P0
  have V0 : Hid (w.grownBy W0 none) := Lib.hid (G0.out.trans (hg.trans P0.1))
  clear hg hy P0
  go_upto_region 2 with (refine wpList_store_row rfl 36 (.tmp 1) (.tmp 16) rfl v0.heap.size y0.c rfl rfl 36 (Qm.z 0).c B0.out (by rw [Qm.c_size]; exact query_size) (by rw [Qm.c_size, Qm.c_size]) (Qm.c_all _) ?_)
  change Code.wp _ _ _ _ ((v0.alloc (.cells (Qm.z 0).c 36)).setRow v0.heap.size y0.c)
  rw [← hW0]
  clear hW0 B0
  go_wp2_with fail
  refine (HT.out _).mono ?_
  rintro e u1 ⟨⟨a1, b1, rfl, ht⟩, hg⟩
  have HT1 := Lib.hid ht
  have G1 : Hid (w.grownBy u1 none) := Lib.hid (V0.out.trans hg)
  clear ht hg
  go_wp2_with fail
  refine (H1.out a1 b1 _ G1.out HT1.out).mono ?_
  rintro e v1 ⟨hg, y1, rfl, hy⟩
  have B1 := Lib.hid (heap_alloc_new v1 (.cells (Qm.z 0).c 36))
  have P1 := HP.out v1 y1
  obtain ⟨W1, hW1⟩ : ∃ W, W = (v1.alloc (.cells (Qm.z 0).c 36)).setRow v1.heap.size y1.c := ⟨_, rfl⟩
  rw [← hW1] at P1
  have V1 : Hid (w.grownBy W1 none) := Lib.hid (G1.out.trans (hg.trans P1.1))
  clear hg hy P1
  go_upto_region 3 with (refine wpList_store_row rfl 36 (.tmp 4) (.tmp 22) rfl v1.heap.size y1.c rfl rfl 36 (Qm.z 0).c B1.out (by rw [Qm.c_size]; exact query_size) (by rw [Qm.c_size, Qm.c_size]) (Qm.c_all _) ?_)
  change Code.wp _ _ _ _ ((v1.alloc (.cells (Qm.z 0).c 36)).setRow v1.heap.size y1.c)
  rw [← hW1]
  clear hW1 B1
  go_wp2_with fail
  refine (HT.out _).mono ?_
  rintro e u2 ⟨⟨a2, b2, rfl, ht⟩, hg⟩
  have HT2 := Lib.hid ht
  have G2 : Hid (w.grownBy u2 none) := Lib.hid (V1.out.trans hg)
  clear ht hg
  go_wp2_with fail
  refine (H2.out a2 b2 _ G2.out HT2.out).mono ?_
  rintro e v2 ⟨hg, y2, rfl, hy⟩
  have B2 := Lib.hid (heap_alloc_new v2 (.cells (Qm.z 0).c 36))
  have P2 := HP.out v2 y2
  obtain ⟨W2, hW2⟩ : ∃ W, W = (v2.alloc (.cells (Qm.z 0).c 36)).setRow v2.heap.size y2.c := ⟨_, rfl⟩
  rw [← hW2] at P2
  have V2 : Hid (w.grownBy W2 none) := Lib.hid (G2.out.trans (hg.trans P2.1))
  clear hg hy P2
  go_upto_region 4 with (refine wpList_store_row rfl 36 (.tmp 7) (.tmp 28) rfl v2.heap.size y2.c rfl rfl 36 (Qm.z 0).c B2.out (by rw [Qm.c_size]; exact query_size) (by rw [Qm.c_size, Qm.c_size]) (Qm.c_all _) ?_)
  change Code.wp _ _ _ _ ((v2.alloc (.cells (Qm.z 0).c 36)).setRow v2.heap.size y2.c)
  rw [← hW2]
  clear hW2 B2
  go_wp2_with fail
  refine (HT.out _).mono ?_
  rintro e u3 ⟨⟨a3, b3, rfl, ht⟩, hg⟩
  have HT3 := Lib.hid ht
  have G3 : Hid (w.grownBy u3 none) := Lib.hid (V2.out.trans hg)
  clear ht hg
  go_wp2_with fail
  refine (H3.out a3 b3 _ G3.out HT3.out).mono ?_
  rintro e v3 ⟨hg, y3, rfl, hy⟩
  have B3 := Lib.hid (heap_alloc_new v3 (.cells (Qm.z 0).c 36))
  have P3 := HP.out v3 y3
  obtain ⟨W3, hW3⟩ : ∃ W, W = (v3.alloc (.cells (Qm.z 0).c 36)).setRow v3.heap.size y3.c := ⟨_, rfl⟩
  rw [← hW3] at P3
  have V3 : Hid (w.grownBy W3 none) := Lib.hid (G3.out.trans (hg.trans P3.1))
  have QB3 := Lib.hid P3.2
  have HY := Lib.hid hy
  clear hg hy P3
  go_upto_region 5 with (refine wpList_store_row rfl 36 (.tmp 10) (.tmp 34) rfl v3.heap.size y3.c rfl rfl 36 (Qm.z 0).c B3.out (by rw [Qm.c_size]; exact query_size) (by rw [Qm.c_size, Qm.c_size]) (Qm.c_all _) ?_)
  change Code.wp _ _ _ _ ((v3.alloc (.cells (Qm.z 0).c 36)).setRow v3.heap.size y3.c)
  rw [← hW3]
  clear hW3 B3
  have e0 := (cell_of_row _ _ 0 _ _ _ QB3.out).trans (qm_c0 y3)
  have e1 := (cell_of_row _ _ 1 _ _ _ QB3.out).trans (qm_c1 y3)
  rw [HY.out.1] at e0
  rw [HY.out.2] at e1
  go_wp2_with fail
  go_ret
  exact ⟨rfl, V3.out⟩
end Go.Proofs.YtjaclmoobfeikaaGreatDoor
