import Derived.Test.YtpklajadfbigcaaGreatDoorZt12
import Derived.RangeFuncNested
import Derived.RangeFuncBound
import Derived.RangeFuncCalls
import Derived.RangeFuncLeaves
import Derived.RangeFuncBox
import Derived.Shelf.Abstract
import Derived.Shelf.RegionOpen
import Derived.WalkKit
import Derived.OwnWalkIn
import Derived.TacticsInMore
import Derived.LoopNIn
import Derived.LoopIn
set_option linter.unusedSimpArgs false
set_option linter.unusedVariables false
namespace Go.Proofs.YtpklajadfbigcaaGreatDoor

theorem RS.ok.hd {s : RS} (h : s.ok) : ∃ r, s.rest = s.hd :: r := by
  obtain ⟨f, l, e, _⟩ := h
  cases f with
  | nil => exact ⟨[], by simp [RS.hd, e]⟩
  | cons x f => exact ⟨f ++ [l], by simp [RS.hd, e]⟩
theorem RS.ok.pos {s : RS} (h : s.ok) : 1 ≤ s.rest.length := by
  obtain ⟨r, e⟩ := h.hd
  rw [e]; simp
def RS.more (s : RS) : Prop := s.hd.kind ≠ 0 ∨ s.hd.text ≠ ⟨#[]⟩
theorem RS.ok.pass {s : RS} (h : s.ok) (hm : s.more) : s.pass.ok ∧ s.pass.rest.length + 1 = s.rest.length := by
  obtain ⟨f, l, e, hk, ht, hf⟩ := h
  cases f with
  | nil =>
    exfalso
    have : s.hd = l := by simp [RS.hd, e]
    rcases hm with hm | hm
    · rw [this] at hm; exact hm hk
    · rw [this] at hm; exact hm ht
  | cons x f =>
    refine ⟨⟨f, l, by simp [RS.pass, e], hk, ht, fun t h => hf t (by simp [h])⟩, by simp [RS.pass, e]⟩
theorem RS.ok.long {s : RS} (h : s.ok) (hm : s.more) : 2 ≤ s.rest.length := by
  have h1 := (h.pass hm).2
  have h2 := (h.pass hm).1.pos
  omega
theorem RS.ok.wrong {s : RS} (h : s.ok) (c : Nat) : (s.wrong c).ok ∧ (s.wrong c).rest.length = 1 := by
  obtain ⟨f, l, e, hk, ht, _⟩ := h
  refine ⟨⟨[], l, by simp [RS.wrong, e], hk, ht, by simp⟩, by simp [RS.wrong, e]⟩
def RS.next (s s' : RS) : Prop := s'.ok ∧ s'.rest.length ≤ s.rest.length
theorem RS.next.trans {s t u : RS} (h : s.next t) (h' : t.next u) : s.next u := ⟨h'.1, Nat.le_trans h'.2 h.2⟩
end Go.Proofs.YtpklajadfbigcaaGreatDoor
namespace Go.Proofs.YtpklajadfbigcaaGreatDoor

end Go.Proofs.YtpklajadfbigcaaGreatDoor
namespace Go.Proofs.YtpklajadfbigcaaGreatDoor
open Go.RowKit

structure RI (w : World) (n : Int) (s : ByteArray) (l : List UInt8) (v : Value) (m : Nat) (wr : World) : Prop where
  own : wr.ownsRow w.heap.size 5 1 v m (Lib.byteCells l)
  len : m = l.length
  below : Below w.heap.size w wr
  size : w.heap.size + 1 ≤ wr.heap.size
  blk : wr.heap[w.heap.size]? = some (.cells #[.int .i64 3, .int .i64 n, .string s] 37 (0, 0))

theorem RI.begin (w : World) (n : Int) (s : ByteArray) : RI w n s [39] (.slice (some ⟨w.heap.size + 1, 0, none⟩) 1 1) 1 ((w.alloc (.cells #[.int .i64 3, .int .i64 n, .string s] 37)).alloc (.cells #[.int .u8 39] 5)) := by
  have h := World.ownsRow_lit (base := w.heap.size) (e := 5) (size := 1) (w.alloc (.cells #[.int .i64 3, .int .i64 n, .string s] 37)) #[.int .u8 39] 1 (by simp) (by decide) rfl
  rw [World.size_alloc] at h
  refine ⟨h, rfl, ((Below.refl _ _).alloc (Nat.le_refl _) _).alloc (by simp) _, by simp, ?_⟩
  rw [Lib.alloc_old _ _ _ (by simp)]
  exact heap_new _ _

end Go.Proofs.YtpklajadfbigcaaGreatDoor
namespace Go.Proofs.YtpklajadfbigcaaGreatDoor
open Go.RowKit

def colGood (K : Int) (i : Nat) (c : Cl) : Prop := nameB c.n = true ∧ (c.k = 1 ∨ c.k = 2 ∨ c.k = 3) ∧ ((i : Int) < K → c.b = false)
theorem box3_new6 (w : World) (x y z : Value) (T : TypeId) : (w.alloc (.cells #[x, y, z] T)).cell? ⟨w.heap.size, 0, none⟩ = some x ∧ (w.alloc (.cells #[x, y, z] T)).cell? ⟨w.heap.size, 1, none⟩ = some y ∧ (w.alloc (.cells #[x, y, z] T)).cell? ⟨w.heap.size, 2, none⟩ = some z := by
  have e := heap_alloc_new w (.cells #[x, y, z] T)
  exact ⟨cell_of_row _ _ 0 _ _ _ e, cell_of_row _ _ 1 _ _ _ e, cell_of_row _ _ 2 _ _ _ e⟩
end Go.Proofs.YtpklajadfbigcaaGreatDoor
namespace Go.Proofs.YtpklajadfbigcaaGreatDoor
open Go.RowKit Go.Shelf
attribute [local go_sem] Oper.semAt_some

abbrev ColI := { x : Cl × Nat // x.2 ≤ 100000 ∧ x.1.n.size ≤ maxLen }
def encC (x : ColI) : Array Value := #[.int .i64 (x.1.2 : Nat), .agg #[.string x.1.1.n, .int .i64 x.1.1.k, .bool x.1.1.b]]
def KpB (Bs n₀ : Nat) (W W' : World) : Prop := Below n₀ W W' ∧ W'.heap[Bs]? = W.heap[Bs]?
theorem KpB.refl (Bs n₀ : Nat) (W : World) : KpB Bs n₀ W W := ⟨Below.refl _ _, rfl⟩
theorem KpB.trans {Bs n₀ : Nat} {A B C : World} (h : KpB Bs n₀ A B) (k : KpB Bs n₀ B C) : KpB Bs n₀ A C := ⟨h.1.trans k.1, k.2.trans h.2⟩
theorem cols_list (cs : List Cl) (h : ∀ c ∈ cs, c.n.size ≤ maxLen) (hl : cs.length ≤ 100000) : ∃ xs : List ColI, xs.map (·.1) = cs.zipIdx.reverse := by
  have hP : ∀ x ∈ cs.zipIdx.reverse, x.2 ≤ 100000 ∧ x.1.n.size ≤ maxLen := fun x hx => by
    have h1 := List.mem_zipIdx (List.mem_reverse.1 hx)
    refine ⟨by omega, h _ ?_⟩
    rw [h1.2.2]; exact List.getElem_mem _
  generalize cs.zipIdx.reverse = L at *
  induction L with
  | nil => exact ⟨[], rfl⟩
  | cons x r ih =>
    obtain ⟨xs, hx⟩ := ih (fun y hy => hP y (List.mem_cons_of_mem _ hy))
    exact ⟨⟨x, hP x (by simp)⟩ :: xs, by simp [hx]⟩
theorem cols_at {cs : List Cl} {xs : List ColI} (hxs : xs.map (·.1) = cs.zipIdx.reverse) {k i : Nat} (hk : k + i + 1 = cs.length) : ∃ x : ColI, xs.take (k + 1) = xs.take k ++ [x] ∧ x.1 = (cs.getD i default, i) := by
  have hlen : xs.length = cs.length := by have := congrArg List.length hxs; simpa using this
  have hkx : k < xs.length := by omega
  refine ⟨xs[k], by rw [List.take_add_one, List.getElem?_eq_getElem hkx]; rfl, ?_⟩
  have h1 : (xs.map (·.1))[k]'(by simpa using hkx) = (xs[k]).1 := by simp
  rw [← h1]
  have h2 : (xs.map (·.1))[k]? = cs.zipIdx.reverse[k]? := by rw [hxs]
  rw [List.getElem?_eq_getElem (by simpa using hkx)] at h2
  rw [List.getElem?_reverse (by simp; omega)] at h2
  simp only [List.length_zipIdx] at h2
  rw [show cs.length - 1 - k = i by omega, List.getElem?_zipIdx, List.getElem?_eq_getElem (show i < cs.length by omega)] at h2
  simp only [Option.map_some, Option.some.injEq, Nat.zero_add] at h2
  rw [h2, List.getD, List.getElem?_eq_getElem (show i < cs.length by omega)]
  rfl

set_option maxRecDepth 100000 in
set_option maxHeartbeats 4000000 in
theorem back1_in (F : Fence) (n : Nat) (hF : F.fn 81) (hro : F.round = none) (hn : 1 ≤ n) (l Bs n₀ : Nat) (a : Option Addr) (cap : Nat) (cs : List Cl) (hl5 : cs.length ≤ 100000) (xs : List ColI) (hxs : xs.map (·.1) = cs.zipIdx.reverse) (J Jx : List ColI → World → Prop)
    (hY : ∀ pre x W, J pre W → pre.length < xs.length → YieldAt F (n - 1) Tryz.prog l (encC x) W fun e W' =>
      (e = .returned (.bool true) ∧ J (pre ++ [x]) W' ∧ KpB Bs n₀ W W') ∨ (e = .returned (.bool false) ∧ Jx (pre ++ [x]) W'))
    (W : World) (hBs : W.heap[Bs]? = some (.cells #[.slice a cs.length cap] 22 (0, 0))) (hC : ColsAt n₀ W a cs) (h0 : J [] W) :
    CallsIn F n Tryz.prog 81 #[.func (.yield l) #[] #[], .pointer (some ⟨Bs, 0, none⟩)] W fun e W' => (∃ v, e = .returned v) ∧
      ((∃ ys, ys = xs ∧ J ys W') ∨ (∃ pre, pre <+: xs ∧ Jx pre W')) := by
  have hlen : xs.length = cs.length := by have := congrArg List.length hxs; simpa using this
  have HX := Lib.hid (fun k i (hk : k + i + 1 = cs.length) => cols_at hxs (k := k) (i := i) hk)
  have HC := Lib.hid (fun i (hi : i < cs.length) => hC.at hi)
  have HY := Lib.hid hY
  clear hxs hC hY
  generalize hcl : cs.length = len at *
  have HXl := Lib.hid hlen
  clear hcl hlen
  refine callsIn_of_wp Tryz.func81 rfl hF ?_ hro
  simp only [Tryz.ntmps81, List.size_toArray, List.length_cons, List.length_nil, Nat.reduceAdd, Nat.reduceSub, Array.replicate_succ, Array.replicate_zero, List.push_toArray, List.append_toArray, List.nil_append, List.cons_append]
  have cBs : W.cell? ⟨Bs, 0, none⟩ = some (.slice a len cap) := by simp [World.cell?, hBs]
  gi_wp2
  gi_loopw [3] (fun s3 wr => ∃ j k : Nat, k + j = len ∧ s3 = .int .i64 ((j : Int) - 1) ∧ J (xs.take k) wr ∧ KpB Bs n₀ W wr)
    (fun s3 _ => (intOf s3 + 1).toNat)
  case atStart => exact ⟨len, 0, by omega, by simp, h0, KpB.refl _ _ _⟩
  case round =>
    obtain ⟨j, k, hjk, rfl, hJs, hK⟩ := hrel
    have cBr : wr.cell? ⟨Bs, 0, none⟩ = some (.slice a len cap) := by simp [World.cell?, hK.2, hBs]
    cases j with
    | zero =>
      obtain rfl : k = len := by omega
      have e0 : ((0 : Nat) : Int) - 1 = -1 := rfl
      rw [e0]
      gi_wp2
      go_end0
      exact ⟨⟨_, rfl⟩, .inl ⟨_, by rw [List.take_of_length_le (Nat.le_of_eq HXl.out)], hJs⟩⟩
    | succ i =>
      have e1 : ((i + 1 : Nat) : Int) - 1 = i := by omega
      rw [e1]
      obtain ⟨b, off, rfl, hb, d0, d1, d2⟩ := HC.out i (by omega)
      obtain ⟨x, hx1, hx2⟩ := HX.out k i (by omega)
      obtain ⟨fn, tmps, assign, body, hy, hR⟩ := HY.out _ x wr hJs (by rw [List.length_take]; have := HXl.out; omega)
      unfold encC at hy
      rw [hx2] at hy
      dsimp only at hy
      have c0 := (hK.1.cell (p := ⟨b, off + i * 3, none⟩) hb).trans d0
      have c1 := (hK.1.cell (p := ⟨b, off + i * 3 + 1, none⟩) hb).trans d1
      have c2 := (hK.1.cell (p := ⟨b, off + i * 3 + 2, none⟩) hb).trans d2
      generalize cs.getD i default = c at *
      have i0 : (0 : Int) ≤ i := by omega
      have i1 : (i : Int) < len := by omega
      have i2 : (i : Nat) < len := by omega
      clear d0 d1 d2
      gi_wp2
      refine hR.mono ?_
      rintro e W3 (⟨rfl, hJ3, hk3⟩ | ⟨rfl, hJx3⟩)
      · gi_wp2
        go_roundw
        case rel => exact ⟨i, k + 1, by omega, by go_num, by rw [hx1]; exact hJ3, hK.trans hk3⟩
        case measure => simp [intOf]
      · gi_wp2
        refine bodyPost_ret (results_none rfl _ _ _) rfl ?_
        exact ⟨⟨_, rfl⟩, .inr ⟨_, by rw [← hx1]; exact List.take_prefix _ _, hJx3⟩⟩

set_option maxHeartbeats 1000000 in
theorem back_in (F : Fence) (n : Nat) (hF : F.fn 73) (hro : F.round = none) (a : Option Addr) (len cap : Nat) (w : World) :
    CallsIn F n Tryz.prog 73 #[.slice a len cap] w fun e w' => e = .returned (.func (.func 81) #[] #[.pointer (some ⟨w.heap.size, 0, none⟩)]) ∧ w' = w.alloc (.cells #[.slice a len cap] 22) := by
  refine callsIn_of_wp Tryz.func73 rfl hF ?_ hro
  simp only [Tryz.ntmps73, List.size_toArray, List.length_cons, List.length_nil, Nat.reduceAdd, Nat.reduceSub, Array.replicate_succ, Array.replicate_zero, List.push_toArray, List.append_toArray, List.nil_append, List.cons_append]
  gi_wp2
  go_ret
  exact ⟨rfl, rfl⟩
theorem back_stops (F : Fence) (n : Nat) (hF : F.fn 81) (hro : F.round = none) (hn : 1 ≤ n) (Bs n₀ : Nat) (a : Option Addr) (cap : Nat) (cs : List Cl) (hl5 : cs.length ≤ 100000) (xs : List ColI) (hxs : xs.map (·.1) = cs.zipIdx.reverse) (w : World) (hn₀ : n₀ ≤ w.heap.size)
    (hBs : w.heap[Bs]? = some (.cells #[.slice a cs.length cap] 22 (0, 0))) (hC : ColsAt n₀ w a cs) :
    SeqStopsK F n Tryz.prog 81 #[.pointer (some ⟨Bs, 0, none⟩)] encC (KpB Bs n₀) (fun ys => ys = xs) (fun pre => pre <+: xs) xs.length w := fun l J Jx W hW _ _ hY h0 => by
  have hlt := (Array.getElem?_eq_some_iff.1 hBs).1
  refine back1_in F n hF hro hn l Bs n₀ a cap cs hl5 xs hxs J Jx hY W ((hW.block Bs hlt).trans hBs) ?_ h0
  exact ⟨hC.1, hC.2.imp id fun ⟨b, off, e, hb, hc⟩ => ⟨b, off, e, hb, fun i hi => ⟨(hW.cell (p := ⟨b, _, none⟩) (show b < w.heap.size by omega)).trans (hc i hi).1, (hW.cell (p := ⟨b, _, none⟩) (show b < w.heap.size by omega)).trans (hc i hi).2.1, (hW.cell (p := ⟨b, _, none⟩) (show b < w.heap.size by omega)).trans (hc i hi).2.2⟩⟩⟩
end Go.Proofs.YtpklajadfbigcaaGreatDoor
