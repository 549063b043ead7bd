import Derived.Test.YtfambadamebjjaaZs01
import Derived.Test.YtfambadamebjjaaZs02
set_option linter.unusedSimpArgs false
set_option linter.unusedVariables false
namespace Go.Proofs.Ytfambadamebjjaa
open Go.RowKit

def hexd (n : Nat) : UInt8 := if n < 10 then UInt8.ofNat (48 + n) else UInt8.ofNat (87 + n)
def plainB (c : Nat) : Bool := decide (32 ≤ c) && decide (c ≤ 126) && (c != 92)
def q1 (c : UInt8) : List UInt8 := if c = 39 then [39, 39] else if plainB c.toNat then [c] else [92, hexd (c.toNat / 16), hexd (c.toNat % 16)]
def qs (l : List UInt8) : List UInt8 := l.flatMap q1

theorem byte_lt (u : UInt8) : u.toNat < 256 := u.toNat_lt

end Go.Proofs.Ytfambadamebjjaa
namespace Go.Proofs.Ytfambadamebjjaa
open Go.RowKit

theorem truth_info : (Try.prog.info? 43).map (fun i => (i.zero, i.size, i.bytes)) = some (some (.int .i64 0), 1, 8) := by kernel_rfl

structure OwnInts (W : World) (l : List Int) (v : Value) (m : Nat) (wr : World) : Prop where
 own : wr.ownsRow W.heap.size 43 1 v m (l.map (Value.int .i64))
 len : m = l.length
 below : Below W.heap.size W wr
theorem OwnInts.step {W : World} {l x : List Int} {v v' : Value} {m k : Nat} {wr w2 : World} {news : List Value} (h : OwnInts W l v m wr) (o : Obj) (hx : news = x.map (Value.int .i64)) (hk : k = x.length)
  (hown : w2.ownsRow W.heap.size 43 1 v' (m + k) (l.map (Value.int .i64) ++ news)) (hg : (wr.alloc o).grownBy w2 v.ownBlock) : OwnInts W (l ++ x) v' (m + k) w2 := by
 have hs := h.below.size
 exact ⟨by rw [List.map_append, ← hx]; exact hown, by rw [h.len, hk, List.length_append], (h.below.alloc hs o).grown hg (by simp; omega) (fun k hk => (h.own.lt k hk).1)⟩
theorem OwnInts.begin (W wr : World) (h : Below W.heap.size W wr) : OwnInts W [] (.slice none 0 0) 0 wr := ⟨World.ownsRow_nil _ _ _ _, rfl, h⟩
theorem OwnInts.slice {W : World} {l : List Int} {v : Value} {m : Nat} {wr : World} (h : OwnInts W l v m wr) : ∃ ao cap, v = .slice ao m cap := by
 rcases h.own.2 with ⟨hv, h0⟩ | ⟨g, cap, cur, hv, _⟩
 ·exact ⟨none, 0, by rw [hv, h0]⟩
 ·exact ⟨_, _, hv⟩
theorem OwnInts.drewN {W : World} {l : List Int} {v : Value} {m : Nat} {wr : World} (h : OwnInts W l v m wr) (n : Nat) : OwnInts W l v m (wr.drewN n) :=
 ⟨h.own, h.len, below_drewN h.below n⟩
theorem OwnInts.more {W : World} {l : List Int} {v : Value} {m : Nat} {wr w2 : World} (h : OwnInts W l v m wr) (hb : Below wr.heap.size wr w2) : OwnInts W l v m w2 := by
 have hs := h.below.size
 refine ⟨?_, h.len, h.below.trans (hb.mono hs)⟩
 rcases h.own with ⟨h1, h2⟩
 refine ⟨h1, ?_⟩
 rcases h2 with h2 | ⟨g, cap, cur, hv, hr⟩
 ·exact .inl h2
 ·right
  have hlt := (h.own.lt g (by rw [hv]; rfl)).2
  have hb' := hb.block g hlt
  refine ⟨g, cap, cur, hv, ?_⟩
  rw [hb']
  exact hr
theorem OwnInts.ints {W : World} {l : List Int} {ao : Option Addr} {cap m : Nat} {wr : World} (h : OwnInts W l (.slice ao m cap) m wr) (hm : l.length ≤ 9223372036854775807) : IntsAt .i64 wr ao l := by
 refine ⟨hm, ?_⟩
 rcases h.own.2 with ⟨hv, h0⟩ | ⟨g, cap', cur, hv, _⟩
 ·left
  exact List.eq_nil_of_length_eq_zero (by rw [← h.len, h0])
 ·right
  cases hv
  refine ⟨g, 0, rfl, (h.own.lt g rfl).2, fun i hi => ?_⟩
  have := h.own.cells (g := g) rfl i (.int .i64 (l.getD i 0)) (by simp [List.getD, hi])
  have e : (⟨g, 0, none⟩ : Addr).add i = ⟨g, 0 + i, none⟩ := by
   unfold Addr.add
   split
   ·subst_vars; rfl
   ·rfl
  rw [e] at this
  exact this

def m3 (x : Int) : Int := x % 3

end Go.Proofs.Ytfambadamebjjaa
namespace Go.Proofs.Ytfambadamebjjaa
open Go.RowKit

end Go.Proofs.Ytfambadamebjjaa
namespace Go.Proofs.Ytfambadamebjjaa
open Go.RowKit

def ordC (ak an : Int) (sa : ByteArray) (bk bn : Int) (sb : ByteArray) : Int := or3 (cmp3 ak bk) (cmp3 an bn) (Lib.compareBytes sa.data.toList sb.data.toList)

theorem cmp3_zero (a b : Int) : cmp3 a b = 0 ↔ a = b := by
 unfold cmp3; (repeat' split) <;> omega
theorem bytes_ext {a b : ByteArray} (h : a.data.toList = b.data.toList) : a = b := by
 cases a; cases b
 simp only [ByteArray.mk.injEq]
 exact Array.toList_inj.1 h
theorem toList_nil {s : ByteArray} (h : s.toList.isEmpty = true) : s.data.toList = [] := by
 rw [← Lib.toList_data]
 exact List.isEmpty_iff.1 h

theorem ordC_ordV {ak an : Int} {sa : ByteArray} {bk bn : Int} {sb : ByteArray} (ha : goodB ak an sa = true) (hb : goodB bk bn sb = true) : ordV ak an sa bk bn sb = ordC ak an sa bk bn sb := by
 unfold ordV ordC or3
 by_cases h : ak = bk
 ·subst h
  rw [if_neg (show ¬ (ak ≠ ak) by simp), if_neg (show ¬ (cmp3 ak ak ≠ 0) by simp [cmp3])]
  by_cases h1 : ak = 1 ∨ ak = 2
  ·rw [if_pos h1]
   have e1 : sa.data.toList = [] := by
    rcases h1 with rfl | rfl <;> simp [goodB] at ha <;> exact toList_nil (by simp [ha])
   have e2 : sb.data.toList = [] := by
    rcases h1 with rfl | rfl <;> simp [goodB] at hb <;> exact toList_nil (by simp [hb])
   rw [e1, e2]
   split
   ·rfl
   ·rename_i h2; simp at h2; rw [h2]; rfl
  ·rw [if_neg h1]
   by_cases h3 : ak = 3
   ·subst h3
    have e1 : an = 0 := by simp [goodB] at ha; exact ha.1
    have e2 : bn = 0 := by simp [goodB] at hb; exact hb.1
    subst e1 e2
    rw [if_pos rfl, if_neg (by simp [cmp3])]
   ·rw [if_neg h3]
    by_cases h0 : ak = 0
    ·subst h0
     simp [goodB] at ha hb
     rw [ha.1, hb.1, toList_nil (by simp [ha.2]), toList_nil (by simp [hb.2])]
     rfl
    ·exfalso
     have : goodB ak an sa = false := by
      unfold goodB
      rw [if_neg h0, if_neg (by omega), if_neg (by omega), if_neg h3]
     simp [this] at ha
 ·rw [if_pos h, if_pos (by rw [ne_eq, cmp3_zero]; exact h)]
end Go.Proofs.Ytfambadamebjjaa
