/- Slices of truths that a call makes itself; the contract of the statements' own helper that makes truths of numbers. -/
import Derived.Test.YtmgddieadehmeaaTruth
namespace Go.Proofs.Ytmgddieadehmeaa
open Go.RowKit

theorem truth_info : (Try.prog.info? 26).map (fun i => (i.zero, i.size, i.bytes)) = some (some (.int .i64 0), 1, 8) := by kernel_rfl

/-- A slice of ints of the call's own, made since W. -/
structure OwnInts (W : World) (l : List Int) (v : Value) (m : Nat) (wr : World) : Prop where
  own : wr.ownsRow W.heap.size 26 1 v m (l.map (Value.int .i64))
  len : m = l.length
  below : Below W.heap.size W wr
theorem OwnInts.step {W : World} {l x : List Int} {v v' : Value} {m k : Nat} {wr w2 : World} {news : List Value} (h : OwnInts W l v m wr) (o : Obj) (hx : news = x.map (Value.int .i64)) (hk : k = x.length)
    (hown : w2.ownsRow W.heap.size 26 1 v' (m + k) (l.map (Value.int .i64) ++ news)) (hg : (wr.alloc o).grownBy w2 v.ownBlock) : OwnInts W (l ++ x) v' (m + k) w2 := by
  have hs := h.below.size
  exact ⟨by rw [List.map_append, ← hx]; exact hown, by rw [h.len, hk, List.length_append], (h.below.alloc hs o).grown hg (by simp; omega) (fun k hk => (h.own.lt k hk).1)⟩
theorem OwnInts.step' {W : World} {l x : List Int} {v v' : Value} {m k : Nat} {wr w2 : World} {news : List Value} (h : OwnInts W l v m wr) (hx : news = x.map (Value.int .i64)) (hk : k = x.length)
    (hown : w2.ownsRow W.heap.size 26 1 v' (m + k) (l.map (Value.int .i64) ++ news)) (hg : wr.grownBy w2 v.ownBlock) : OwnInts W (l ++ x) v' (m + k) w2 := by
  have hs := h.below.size
  exact ⟨by rw [List.map_append, ← hx]; exact hown, by rw [h.len, hk, List.length_append], h.below.grown hg hs (fun k hk => (h.own.lt k hk).1)⟩
theorem OwnInts.begin (W wr : World) (h : Below W.heap.size W wr) : OwnInts W [] (.slice none 0 0) 0 wr := ⟨World.ownsRow_nil _ _ _ _, rfl, h⟩
theorem OwnInts.slice {W : World} {l : List Int} {v : Value} {m : Nat} {wr : World} (h : OwnInts W l v m wr) : ∃ ao cap, v = .slice ao m cap := by
  rcases h.own.2 with ⟨hv, h0⟩ | ⟨g, cap, cur, hv, _⟩
  · exact ⟨none, 0, by rw [hv, h0]⟩
  · exact ⟨_, _, hv⟩
theorem OwnInts.drewN {W : World} {l : List Int} {v : Value} {m : Nat} {wr : World} (h : OwnInts W l v m wr) (n : Nat) : OwnInts W l v m (wr.drewN n) :=
  ⟨h.own, h.len, below_drewN h.below n⟩
theorem OwnInts.more {W : World} {l : List Int} {v : Value} {m : Nat} {wr w2 : World} (h : OwnInts W l v m wr) (hb : Below wr.heap.size wr w2) : OwnInts W l v m w2 := by
  have hs := h.below.size
  refine ⟨?_, h.len, h.below.trans (hb.mono hs)⟩
  rcases h.own with ⟨h1, h2⟩
  refine ⟨h1, ?_⟩
  rcases h2 with h2 | ⟨g, cap, cur, hv, hr⟩
  · exact .inl h2
  · right
    have hlt := (h.own.lt g (by rw [hv]; rfl)).2
    have hb' := hb.block g hlt
    refine ⟨g, cap, cur, hv, ?_⟩
    rw [hb']
    exact hr
/-- The slice read. -/
theorem OwnInts.ints {W : World} {l : List Int} {ao : Option Addr} {cap m : Nat} {wr : World} (h : OwnInts W l (.slice ao m cap) m wr) (hm : l.length ≤ 9223372036854775807) : IntsAt .i64 wr ao l := by
  refine ⟨hm, ?_⟩
  rcases h.own.2 with ⟨hv, h0⟩ | ⟨g, cap', cur, hv, _⟩
  · left
    exact List.eq_nil_of_length_eq_zero (by rw [← h.len, h0])
  · right
    cases hv
    refine ⟨g, 0, rfl, (h.own.lt g rfl).2, fun i hi => ?_⟩
    have := h.own.cells (g := g) rfl i (.int .i64 (l.getD i 0)) (by simp [List.getD, hi])
    have e : (⟨g, 0, none⟩ : Addr).add i = ⟨g, 0 + i, none⟩ := by
      unfold Addr.add
      split
      · subst_vars; rfl
      · rfl
    rw [e] at this
    exact this

/-- What the helper makes of a number. -/
def m3 (x : Int) : Int := x % 3

theorem take_map {l : List Int} {k : Nat} (f : Int → Int) (h : k < l.length) {x : Int} (hx : l.getD k 0 = x) : (l.take (k + 1)).map f = (l.take k).map f ++ [f x] := by
  rw [take_getD h, hx]; simp

set_option maxHeartbeats 800000 in
theorem truths_any (a : Option Addr) (cap : Nat) (l : List Int) (w : World) (h : IntsAt .u8 w a l) (h8 : ∀ x ∈ l, 0 ≤ x ∧ x ≤ 255) (h1000 : l.length ≤ 1000) :
    Calls Try.prog 10 #[.slice a l.length cap] w fun e w' => ∃ v, e = .returned v ∧ OwnInts w (l.map m3) v l.length w' := by
  have H := Lib.hid h
  have H8 := Lib.hid (fun k (hk : k < l.length) => h8 _ (getD_mem hk))
  clear h h8
  generalize hlen : l.length = len at *
  have Hlen := Lib.hid hlen
  clear hlen
  obtain ⟨i0, hi, hz0, hz1, hz2⟩ := info_parts truth_info
  go_enter Try.func10, Try.ntmps10
  go_wp2
  go_loopw [3, 8] (fun v i wr => ∃ (k : Nat) (full : List Int), k ≤ len ∧ i = .int .i64 k ∧ Hid (full = (l.take k).map m3) ∧ OwnInts w full v k wr) (fun _ i _ => len - (intOf i).toNat)
  case atStart => exact ⟨0, [], Nat.zero_le _, rfl, Lib.hid (by simp), OwnInts.begin w w (Below.refl _ _)⟩
  case round =>
    obtain ⟨k, full, hk, rfl, hf, ho⟩ := hrel
    obtain ⟨ao, cp, rfl⟩ := ho.slice
    have hbl := ho.below
    have hbs := hbl.size
    have Ho := Lib.hid ho
    clear ho
    by_cases hlt : k < len
    · obtain ⟨b, off, rfl, hbs', c0⟩ := (H.out.keep hbl).at (i := k) (by rw [Hlen.out]; exact hlt)
      obtain ⟨hx0, hx255⟩ := H8.out k hlt
      generalize hx : l.getD k 0 = x at *
      have Hx := Lib.hid hx
      clear hx
      go_wp2_with (at_builtin; refine wpList_append_own _ rfl _ _ 24 rfl w.heap.size 26 i0 (.int .i64 0) 1 8 Try.underlying24 hi hz0 hz1 hz2 rfl (by decide) _ _ _ rfl (Ho.out.own.alloc _) ⟨wr.heap.size, 0, none⟩ 1 1 [.int .i64 (x % 3)] rfl rfl ?c1 ?c2 ?c3 ?c4 ?c5 ?_)
      case c1 =>
        intro j u hj
        match j, hj with
        | 0, hj => simp at hj; subst hj; simp [Addr.add]
      case c2 => first | (intro u hu; simp at hu; subst hu; rfl) | rfl
      case c3 => unfold maxLen; omega
      case c4 => omega
      case c5 => first | omega | (simp; omega)
      intro v' w2 hown' hgrow _
      have ho2 := Ho.out.step (x := [x % 3]) _ rfl rfl hown' hgrow
      go_wp2_with fail
      go_roundw
      case rel => exact ⟨k + 1, full ++ [x % 3], by omega, by go_num, Lib.hid (by rw [hf.out, take_map m3 (by rw [Hlen.out]; exact hlt) Hx.out]; rfl), ho2⟩
      case measure => simp [intOf]; omega
    · obtain rfl : k = len := by omega
      go_wp2_with fail
      go_ret
      refine ⟨_, rfl, ?_⟩
      have := Ho.out
      rw [hf.out, List.take_of_length_le (by rw [Hlen.out]; exact Nat.le_refl _)] at this
      exact this
end Go.Proofs.Ytmgddieadehmeaa
