/- Contracts of the program's and the document's Number. -/
import Derived.Test.YtnfpomjcofhppaaDoorByt
namespace Go.Proofs.YtnfpomjcofhppaaDoor
open Go.RowKit

theorem wrap_u64 {x : Int} (h : 0 ≤ x) (h1 : x < 18446744073709551616) : IntKind.u64.wrap x = x := by
  simp [IntKind.wrap, IntKind.signed, IntKind.bits]
  omega
theorem wrap_u8 {x : Int} (h : 0 ≤ x) (h1 : x < 256) : IntKind.u8.wrap x = x := by
  simp [IntKind.wrap, IntKind.signed, IntKind.bits]
  omega
theorem wrap_div {k : Nat} (h : k < 18446744073709551616) : IntKind.u64.wrap ((k : Int) / 128) = ((k / 128 : Nat) : Int) ∧ k / 128 < 18446744073709551616 :=
  ⟨by rw [wrap_u64 (by omega) (by omega)]; omega, by omega⟩
set_option maxRecDepth 100000 in
set_option maxHeartbeats 1600000 in
theorem addNumber_any (B : Nat) (v : Value) (l : List UInt8) (n : Nat) (w : World) (h : OwnB B w v l) (hB : B ≤ w.heap.size) (hl : l.length ≤ 100000000) (hn : n < 18446744073709551616) :
    Calls Tryd.prog 19 #[v, .int .u64 n] w (Adds B w (l ++ numB n)) := by
  have H := Lib.hid h
  have HN := Lib.hid hn
  have hlen : (l ++ numB n).length ≤ 100000010 := by rw [List.length_append]; have := (numB_10 hn).2; omega
  generalize hr : l ++ numB n = r at *
  have Hr := Lib.hid hr
  clear hr hn h
  obtain ⟨i0, hi, hz0, hz1, hz2⟩ := info_parts u8_info
  go_enter Tryd.func19, Tryd.ntmps19
  go_wp2_with fail
  go_loopw [0, 1] (fun v i wr => ∃ (k : Nat) (cur : List UInt8), i = .int .u64 k ∧ Hid (k < 18446744073709551616) ∧ Hid (cur ++ numB k = r) ∧ Hid (OwnB B wr v cur) ∧ Hid (Below B w wr)) (fun _ i _ => (intOf i).toNat)
  case atStart => exact ⟨n, l, rfl, HN, Hr, H, Lib.hid (Below.refl _ _)⟩
  case round =>
    obtain ⟨k, cur, rfl, M, E, O, K⟩ := hrel
    have hcl : cur.length ≤ 100000010 := by have := congrArg List.length E.out; rw [List.length_append] at this; omega
    have Kz : B ≤ wr.heap.size := Nat.le_trans hB K.out.size
    by_cases hk : k < 128
    · have hk' : (k : Int) < 128 := by omega
      have hw := wrap_u8 (x := (k : Int)) (by omega) (by omega)
      have hc := byte_small hk
      rw [numB_small hk] at E
      generalize UInt8.ofNat k = c at *
      have HC := Lib.hid hc
      clear hc
      go_wp2_with (at_builtin; refine wpList_append_own _ rfl _ _ 22 rfl B 5 i0 (.int .u8 0) 1 1 Tryd.underlying22 hi hz0 hz1 hz2 rfl (by decide) _ _ _ rfl (O.out.alloc _) ⟨wr.heap.size, 0, none⟩ 1 1 [.int .u8 k] rfl rfl ?c1 ?c2 ?c3 ?c4 ?c5 ?_)
      case c1 =>
        intro j u hj
        match j, hj with
        | 0, hj => simp at hj; subst hj; simp [Addr.add]
      case c2 => first | (intro u hu; simp at hu; subst hu; rfl) | rfl
      case c3 => unfold maxLen; omega
      case c4 => omega
      case c5 => first | omega | (simp; omega)
      intro v' w2 hown' hgrow _
      have ho2 := Lib.hid (O.out.alloc (.cells #[.int .u8 k] 5) |>.grown (w := w) (K.out.alloc Kz _) (by simp; omega) hgrow)
      have ho3 := Lib.hid (OwnB.more (x := [c]) rfl (by rw [List.map_cons, List.map_nil]; unfold bV; rw [HC.out]) hown')
      clear hown' hgrow
      go_wp2_with fail
      go_ret
      exact ⟨_, rfl, E.out ▸ ho3.out, ho2.out⟩
    · have hk' : (128 : Int) ≤ (k : Int) := by omega
      have hw := (wrap_div M.out).1
      have M2 := Lib.hid (wrap_div M.out).2
      have hc := byte_great k
      rw [numB_great hk] at E
      generalize UInt8.ofNat (k % 128 + 128) = c at *
      have HC := Lib.hid hc
      clear hc
      go_wp2_with (at_builtin; refine wpList_append_own _ rfl _ _ 22 rfl B 5 i0 (.int .u8 0) 1 1 Tryd.underlying22 hi hz0 hz1 hz2 rfl (by decide) _ _ _ rfl (O.out.alloc _) ⟨wr.heap.size, 0, none⟩ 1 1 [.int .u8 ((k : Int) % 128 + 128)] rfl rfl ?d1 ?d2 ?d3 ?d4 ?d5 ?_)
      case d1 =>
        intro j u hj
        match j, hj with
        | 0, hj => simp at hj; subst hj; simp [Addr.add]
      case d2 => first | (intro u hu; simp at hu; subst hu; rfl) | rfl
      case d3 => unfold maxLen; omega
      case d4 => omega
      case d5 => first | omega | (simp; omega)
      intro v' w2 hown' hgrow _
      have ho2 := Lib.hid (O.out.alloc (.cells #[.int .u8 ((k : Int) % 128 + 128)] 5) |>.grown (w := w) (K.out.alloc Kz _) (by simp; omega) hgrow)
      have ho3 := Lib.hid (OwnB.more (x := [c]) rfl (by rw [List.map_cons, List.map_nil]; unfold bV; rw [HC.out]) hown')
      clear hown' hgrow
      go_wp2_with fail
      go_roundw
      case rel => exact ⟨k / 128, cur ++ [c], rfl, M2, Lib.hid (by rw [List.append_assoc]; exact E.out), ho3, ho2⟩
      case measure => simp [intOf]; omega
theorem number_any (n : Nat) (w : World) (hn : n < 18446744073709551616) :
    Calls Tryd.prog 10 #[.int .u64 n] w (Adds w.heap.size w (numB n)) := by
  have H := Lib.hid (fun w => addNumber_any w.heap.size (.slice none 0 0) [] n w (OwnB.nil _ _) (Nat.le_refl _) (by simp) hn)
  simp only [List.nil_append] at H
  go_enter Tryd.func10, Tryd.ntmps10
  go_wp2_with fail
  refine (H.out _).mono ?_
  rintro e w' ⟨v, rfl, ho, hb⟩
  go_wp2_with fail
  go_ret
  exact ⟨_, rfl, ho, hb⟩
end Go.Proofs.YtnfpomjcofhppaaDoor
