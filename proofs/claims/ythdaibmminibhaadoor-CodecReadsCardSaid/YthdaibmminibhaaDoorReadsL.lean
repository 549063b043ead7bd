/- The law CodecReads walked. -/
import Derived.Test.YthdaibmminibhaaDoorRefRw
import Derived.Test.YthdaibmminibhaaDoorSameR
import Derived.Test.YthdaibmminibhaaDoorEncl
namespace Go.Proofs.YthdaibmminibhaaDoor
open Go.RowKit

def Ok5 (i e : Int) : Prop := (0 < i ∧ e = 0) ∨ (i = 0 ∧ e = 2)
theorem num5 (l : List UInt8) : ∃ n i e : Int, numV (readN l) = .tuple #[.int .u64 n, .int .i64 i, .int .i64 e] ∧ rnV (readN l) = .tuple #[.int .u64 n, .int .i64 i] ∧ Ok5 i e := by
  cases h : readN l with
  | none => exact ⟨0, 0, 2, rfl, rfl, .inr ⟨rfl, rfl⟩⟩
  | some x =>
    obtain ⟨n, k⟩ := x
    exact ⟨n, k, 0, rfl, rfl, .inl ⟨by have := (readN_some h).2.1; omega, rfl⟩⟩
theorem val5 (l : List UInt8) : ∃ (k n : Int) (s : ByteArray) (i e : Int), valV (readV l) = .tuple #[.agg #[.int .i64 k, .int .i64 n, .string s], .int .i64 i, .int .i64 e] ∧ rvV (readV l) = .tuple #[.agg #[.int .i64 k, .int .i64 n, .string s], .int .i64 i] ∧ Ok5 i e := by
  cases h : readV l with
  | none => exact ⟨0, 0, ⟨#[]⟩, 0, 2, rfl, rfl, .inr ⟨rfl, rfl⟩⟩
  | some x =>
    obtain ⟨v, k⟩ := x
    exact ⟨v.k, v.n, v.s, k, 0, rfl, rfl, .inl ⟨by have := (readV_some h).2.1; omega, rfl⟩⟩
theorem str5 (l : List UInt8) : ∃ (s : ByteArray) (i e : Int), strV (readS 9223372036854775807 l) = .tuple #[.string s, .int .i64 i, .int .i64 e] ∧ rsV (readS 9223372036854775807 l) = .tuple #[.string s, .int .i64 i] ∧ Ok5 i e := by
  cases h : readS 9223372036854775807 l with
  | none => exact ⟨⟨#[]⟩, 0, 2, rfl, rfl, .inr ⟨rfl, rfl⟩⟩
  | some x =>
    obtain ⟨t, k⟩ := x
    exact ⟨⟨t.toArray⟩, k, 0, rfl, rfl, .inl ⟨by have := (readS_some h (by omega)).2.1; omega, rfl⟩⟩
theorem row5 (l : List UInt8) : ∃ (vs : List Vl) (i e : Int), (∀ e' w', RowOut (readR l) e' w' → ∃ a cap, e' = .returned (.tuple #[.slice a vs.length cap, .int .i64 i, .int .i64 e]) ∧ RowLow w'.heap.size w' a vs)
    ∧ (∀ w e' w', RRow w (readR l) e' w' → ∃ a cap, e' = .returned (.tuple #[.slice a vs.length cap, .int .i64 i]) ∧ RowLow w'.heap.size w' a vs ∧ Below w.heap.size w w') ∧ Ok5 i e := by
  cases h : readR l with
  | none =>
    have hn : ∀ w' : World, RowLow w'.heap.size w' none [] := fun w' => ⟨by simp, by simp, .inl rfl⟩
    exact ⟨[], 0, 2, fun e' w' ho => ⟨none, 0, ho.2 rfl, hn w'⟩, fun w e' w' ho => ⟨none, 0, ho.2.1 rfl, hn w', ho.2.2⟩, .inr ⟨rfl, rfl⟩⟩
  | some x =>
    obtain ⟨vs, k⟩ := x
    obtain ⟨_, h255, hk, _, hgood⟩ := readR_some h
    refine ⟨vs, k, 0, fun e' w' ho => ?_, fun w e' w' ho => ?_, .inl ⟨by omega, rfl⟩⟩
    · exact ho.1 vs k rfl
    · obtain ⟨v, rfl, ov⟩ := ho.1 vs k rfl
      obtain ⟨a, cap, rfl, hl⟩ := ov.low h255 (fun x hx => (hgood x hx).2)
      exact ⟨a, cap, rfl, hl, ho.2.2⟩
theorem rows5 (l : List UInt8) : ∃ (ls : List (List Vl)) (i e : Int), (∀ e' w', RowsOut (readL l) e' w' → ∃ a cap rws, e' = .returned (.tuple #[.slice a rws.length cap, .int .i64 i, .int .i64 e]) ∧ rwL rws = ls ∧ RowsLow w'.heap.size w' a rws)
    ∧ (∀ w e' w', RRows w (readL l) e' w' → ∃ a cap rws, e' = .returned (.tuple #[.slice a rws.length cap, .int .i64 i]) ∧ rwL rws = ls ∧ RowsLow w'.heap.size w' a rws ∧ Below w.heap.size w w') ∧ Ok5 i e := by
  cases h : readL l with
  | none =>
    have hn : ∀ w' : World, RowsLow w'.heap.size w' none [] := fun w' => ⟨by simp, by simp, .inl rfl⟩
    exact ⟨[], 0, 2, fun e' w' ho => ⟨none, 0, [], ho.2 rfl, rfl, hn w'⟩, fun w e' w' ho => ⟨none, 0, [], ho.2.1 rfl, rfl, hn w', ho.2.2⟩, .inr ⟨rfl, rfl⟩⟩
  | some x =>
    obtain ⟨ls, k⟩ := x
    obtain ⟨_, hll, hk, hkl, _⟩ := readL_some h
    refine ⟨ls, k, 0, fun e' w' ho => ?_, fun w e' w' ho => ?_, .inl ⟨by omega, rfl⟩⟩
    · exact ho.1 ls k rfl
    · obtain ⟨v, rws, rfl, hls, ov⟩ := ho.1 ls k rfl
      have hlen : rws.length ≤ 9223372036854775807 := by
        rcases ov.1.2 with ⟨_, h0⟩ | ⟨g, cap, cur, hv, _, _, hc, hm, _⟩
        · omega
        · unfold maxLen at hm; omega
      obtain ⟨a, cap, rfl, hl⟩ := ov.low hlen
      exact ⟨a, cap, rws, rfl, hls, hl, ho.2.2⟩
theorem RowsLow.up {B B' : Nat} {w : World} {a : Option Addr} {ls : List Rw} (h : RowsLow B w a ls) (hB : B ≤ B') : RowsLow B' w a ls :=
  ⟨h.1, fun r hr => (h.2.1 r hr).mono hB, h.2.2.imp id fun ⟨b, off, e, hlt, hc⟩ => ⟨b, off, e, by omega, hc⟩⟩
/-- A box of three cells. -/
def BoxC (w : World) (g : Nat) (x y z : Value) : Prop := w.cell? ⟨g, 0, none⟩ = some x ∧ w.cell? ⟨g, 1, none⟩ = some y ∧ w.cell? ⟨g, 2, none⟩ = some z
theorem box3_cells4 (w : World) (x y z : Value) (T : TypeId) : BoxC (w.alloc (.cells #[x, y, z] T)) w.heap.size x y z := by
  have e := heap_alloc_new w (.cells #[x, y, z] T)
  exact ⟨cell_of_row _ _ 0 _ _ _ e, cell_of_row _ _ 1 _ _ _ e, cell_of_row _ _ 2 _ _ _ e⟩
theorem BoxC.keep {w w' : World} {g : Nat} {x y z : Value} (h : BoxC w g x y z) (hb : Below w.heap.size w w') : BoxC w' g x y z := by
  have hg := grown_below hb none
  exact ⟨hg.cell h.1 (by simp), hg.cell h.2.1 (by simp), hg.cell h.2.2 (by simp)⟩
theorem at_string4 {B : Nat} {w : World} {a : Option Addr} {l : List UInt8} (h : BAt B w a l) (cap : Nat) : (convert 32 9 (.slice a l.length cap)).run Tryd.prog w = .ok (.string ⟨l.toArray⟩) w := by
  cases a with
  | none =>
    obtain rfl : l = [] := by rcases h.2 with h | ⟨_, _, h, _⟩; exact h; cases h
    exact (show (convert 32 9 (.slice none 0 cap)).run Tryd.prog w = .ok (.string ⟨#[]⟩) w by kernel_rfl)
  | some ad =>
    refine run_convert_bytes_back w _ _ 5 ad cap l Tryd.underlying32 Tryd.underlying5 Tryd.underlying9 (fun j hj => ?_)
    obtain ⟨b, off, e, _, hc⟩ := h.at (i := j) hj
    cases e
    rw [add_at, hc]
    simp [List.getD, hj, bV]
set_option maxRecDepth 100000 in
set_option maxHeartbeats 12800000 in
theorem CodecReads_short (G : Nat) (a : Option Addr) (cap : Nat) (l : List UInt8) (w : World) (h : Env G w a l cap) (hn : a = none → cap = 0) (hl : l.length ≤ 20000) :
    Calls Tryd.prog 4 #[.slice a l.length cap] w fun e w' => e = .returned (.bool true) ∧ Below w.heap.size w w' := by
  have HW := Lib.hid awake_any
  have HE := Lib.hid (fun W (hW : Below w.heap.size w W) (p : Option Addr) (c : Nat) (hp : BAt W.heap.size W p l) (hc : l.length ≤ c) (hm : c ≤ 9223372036854775807) => (show Env G W p l c from ⟨hp, hc, hm, h.s.none (grown_below hW none), h.e.none (grown_below hW none), Nat.le_trans h.g hW.size⟩))
  have HB := Lib.hid (fun W (hW : Below w.heap.size w W) => ((h.b.keep (grown_below hW none) (by simp)).mono hW.size : BAt W.heap.size W a l))
  have hcl := h.c
  have hcm := h.m
  obtain ⟨n, i1, e1, pn, qn, ok1⟩ := num5 l
  obtain ⟨vk, vn, vs', i2, e2, pv, qv, ok2⟩ := val5 l
  obtain ⟨vs, i3, e3, pr, qr, ok3⟩ := row5 l
  obtain ⟨ls, i4, e4, pl, ql, ok4⟩ := rows5 l
  obtain ⟨st, i5, e5, ps, qs, ok5⟩ := str5 l
  have P1 := Lib.hid (fun p c W (hE : Env G W p l c) => readNumber_any G p l c W hE)
  have P2 := Lib.hid (fun p c W (hE : Env G W p l c) => readValue_any G p l c W hE)
  have P3 := Lib.hid (fun p c W (hE : Env G W p l c) => (readRow_any G p l c W hE).mono fun e' w' ho => And.intro (pr e' w' ho.1) ho.2)
  have P4 := Lib.hid (fun p c W (hE : Env G W p l c) => (readRows_any G p l c W hE (by omega)).mono fun e' w' ho => And.intro (pl e' w' ho.1) ho.2)
  have P5 := Lib.hid (fun p c W (hE : Env G W p l c) => readString_any G p l c W hE)
  have Q1 := Lib.hid (fun W (hW : Below w.heap.size w W) => refReadNumber_any a cap l W (HB.out W hW))
  have Q2 := Lib.hid (fun W (hW : Below w.heap.size w W) => refReadValue_any a cap l W (HB.out W hW) hcl hcm)
  have Q3 := Lib.hid (fun W (hW : Below w.heap.size w W) => (refReadRow_any a cap l W (HB.out W hW) hcl hcm).mono fun e' w' ho => qr W e' w' ho)
  have Q4 := Lib.hid (fun W (hW : Below w.heap.size w W) => (refReadRows_any a cap l W (HB.out W hW) hcl hcm (by omega)).mono fun e' w' ho => ql W e' w' ho)
  have Q5 := Lib.hid (fun W (hW : Below w.heap.size w W) => refReadString_any 9223372036854775807 a cap l W (HB.out W hW) hcl hcm (by omega))
  rw [pn] at P1
  rw [pv] at P2
  rw [ps] at P5
  rw [qn] at Q1
  unfold RvPost at Q2
  rw [qv] at Q2
  rw [qs] at Q5
  have OK := Lib.hid (And.intro ok1 (And.intro ok2 (And.intro ok3 (And.intro ok4 ok5))))
  obtain ⟨len, hle⟩ : ∃ len, len = l.length := ⟨_, rfl⟩
  have Hle := Lib.hid hle
  rw [← hle] at hl ⊢
  simp only [← hle] at P1 P2 P3 P4 P5 Q1 Q2 Q3 Q4 Q5 HE
  have h1' : (len : Int) ≤ 20000 := by omega
  clear h hle pn qn pv qv ps qs pr qr pl ql ok1 ok2 ok3 ok4 ok5
  go_enter Tryd.func4, Tryd.ntmps4
  go_wp2_with fail
  refine (HW.out _).mono ?_
  rintro e w1 ⟨rfl, hb⟩
  have K1 := Lib.hid hb
  have hs1 : w.heap.size ≤ w1.heap.size := K1.out.size
  have OE : Hid (OwnB w.heap.size (w1.alloc (.cells #[] 5)) (.slice (some ⟨w1.heap.size, 0, none⟩) 0 0) []) := Lib.hid (own_empty _ _ hs1)
  have KE := Lib.hid (K1.out.alloc (by exact hs1) (.cells #[] 5))
  have BE := Lib.hid (HB.out _ KE.out)
  clear hb
  go_wp2_with (at_builtin; refine wpList_append_bytes rfl (.tmp 39) (.tmp 40) rfl w.heap.size _ _ [] rfl OE.out a len cap l Hle.out rfl BE.out hn ?z1 KE.out.size ?_)
  case z1 => simp only [List.length_nil]; omega
  intro v2 w2 o2 gr2 _
  have O2 : Hid (OwnB w.heap.size w2 v2 l) := Lib.hid o2
  have K2 := Lib.hid (OE.out.grown KE.out KE.out.size gr2)
  clear o2 gr2
  obtain ⟨a2, c2, rfl, hb2, hc2, hcm2, _⟩ := O2.out.read2 (by rw [← Hle.out]; omega)
  have B2 := Lib.hid hb2
  rw [← Hle.out] at hc2 ⊢
  have E2 := Lib.hid (fun W (hW : Below w2.heap.size w2 W) => HE.out W (K2.out.trans (hW.mono K2.out.size)) a2 c2 ((B2.out.keep (grown_below hW none) (by simp)).mono hW.size) (by omega) hcm2)
  clear hb2
  go_wp2_with fail
  refine (P1.out a2 c2 w2 (E2.out _ (Below.refl _ _))).mono ?_
  rintro e w3 ⟨rfl, hg⟩
  have L3 := Lib.hid (below_grown hg)
  clear hg
  go_wp2_with fail
  refine (P2.out a2 c2 w3 (E2.out _ L3.out)).mono ?_
  rintro e w4 ⟨rfl, hg⟩
  have L4 := Lib.hid (L3.out.trans ((below_grown hg).mono L3.out.size))
  have L4a := Lib.hid (L4.out.alloc (L4.out.size) (.cells #[.int .i64 vk, .int .i64 vn, .string vs'] 38))
  have b7 := Lib.hid (box3_cells4 w4 (.int .i64 vk) (.int .i64 vn) (.string vs') 38)
  clear hg
  go_wp2_with fail
  refine (P3.out a2 c2 _ (E2.out _ L4a.out)).mono ?_
  rintro e w5 ⟨⟨a5, c5, rfl, hr5⟩, hg⟩
  have G5 := Lib.hid (below_grown hg)
  have L5 := Lib.hid (L4a.out.trans ((below_grown hg).mono L4a.out.size))
  have R5 := Lib.hid hr5
  clear hg hr5
  go_wp2_with fail
  refine (P4.out a2 c2 _ (E2.out _ L5.out)).mono ?_
  rintro e w6 ⟨⟨a6, c6, rs6, rfl, hl6, hr6⟩, hg⟩
  have G6 := Lib.hid (below_grown hg)
  have L6 := Lib.hid (L5.out.trans ((below_grown hg).mono L5.out.size))
  have R6 := Lib.hid hr6
  have H6 := Lib.hid hl6
  clear hg hr6 hl6
  go_wp2_with fail
  refine (P5.out a2 c2 _ (E2.out _ L6.out)).mono ?_
  rintro e w7 ⟨rfl, hg⟩
  have G7 := Lib.hid (below_grown hg)
  have L7 := Lib.hid (L6.out.trans ((below_grown hg).mono L6.out.size))
  clear hg
  go_wp2_with fail
  refine (Q1.out w7 (K2.out.trans (L7.out.mono K2.out.size))).mono ?_
  rintro e w8 ⟨rfl, rfl⟩
  go_wp2_with fail
  refine (Q2.out w7 (K2.out.trans (L7.out.mono K2.out.size))).mono ?_
  rintro e w8 ⟨rfl, hg⟩
  have G8 := Lib.hid (below_grown hg)
  have L8 := Lib.hid (L7.out.trans ((below_grown hg).mono L7.out.size))
  have L8a := Lib.hid (L8.out.alloc (L8.out.size) (.cells #[.int .i64 vk, .int .i64 vn, .string vs'] 38))
  have b21 := Lib.hid (box3_cells4 w8 (.int .i64 vk) (.int .i64 vn) (.string vs') 38)
  clear hg
  go_wp2_with fail
  refine (Q3.out _ (K2.out.trans (L8a.out.mono K2.out.size))).mono ?_
  rintro e w9 ⟨a9, c9, rfl, hr9, hb⟩
  have G9 := Lib.hid hb
  have L9 := Lib.hid (L8a.out.trans (hb.mono L8a.out.size))
  have R9 := Lib.hid hr9
  clear hb hr9
  go_wp2_with fail
  refine (Q4.out _ (K2.out.trans (L9.out.mono K2.out.size))).mono ?_
  rintro e w10 ⟨a10, c10, rs10, rfl, hl10, hr10, hb⟩
  have G10 := Lib.hid hb
  have L10 := Lib.hid (L9.out.trans (hb.mono L9.out.size))
  have R10 := Lib.hid hr10
  have H10 := Lib.hid hl10
  clear hb hr10 hl10
  go_wp2_with fail
  refine (Q5.out _ (K2.out.trans (L10.out.mono K2.out.size))).mono ?_
  rintro e w11 ⟨rfl, rfl⟩
  have G8a := Lib.hid (G8.out.alloc G8.out.size (.cells #[.int .i64 vk, .int .i64 vn, .string vs'] 38))
  -- from w5, w6 on to w10
  have G710 := Lib.hid (G8a.out.trans ((G9.out.trans (G10.out.mono G9.out.size)).mono G8a.out.size))
  have G610 := Lib.hid (G7.out.trans (G710.out.mono G7.out.size))
  have G510 := Lib.hid (G6.out.trans (G610.out.mono G6.out.size))
  have R5' := Lib.hid ((R5.out.keep G510.out).mono G510.out.size)
  have R6' := Lib.hid ((R6.out.keep G610.out).up G610.out.size)
  have R9' := Lib.hid ((R9.out.keep G10.out).mono G10.out.size)
  have b7' := b7.out.keep (G5.out.trans (G510.out.mono G5.out.size))
  have b21' := b21.out.keep (G9.out.trans (G10.out.mono G9.out.size))
  obtain ⟨d0, d1, d2⟩ := b7'
  obtain ⟨f0, f1, f2⟩ := b21'
  have S1 := refSame_any a5 a9 c5 c9 vs vs w10 R5'.out R9'.out
  rw [decide_eq_true (rfl : vs = vs)] at S1
  have S1' := Lib.hid S1
  have hrw : rwL rs6 = rwL rs10 := by rw [H6.out, H10.out]
  have S2 := Lib.hid (fun W (hW : Below w10.heap.size w10 W) => refSameRows_any a6 a10 c6 c10 rs6 rs10 W ((R6'.out.keep hW).up hW.size) ((R10.out.keep hW).up hW.size))
  rw [decide_eq_true hrw] at S2
  clear S1 hrw
  generalize vs.length = nvs at *
  generalize rs6.length = n6 at *
  generalize rs10.length = n10 at *
  go_wp2_with fail
  refine S1'.out.mono ?_
  rintro e w12 ⟨rfl, hb⟩
  have T12 := Lib.hid hb
  have L12 := Lib.hid (L10.out.trans (hb.mono L10.out.size))
  clear hb
  go_wp2_with fail
  refine (S2.out _ T12.out).mono ?_
  rintro e w13 ⟨rfl, hb⟩
  have L13 := Lib.hid (L12.out.trans (hb.mono L12.out.size))
  have K13 := Lib.hid (K2.out.trans (L13.out.mono K2.out.size))
  have cv1 := at_string4 (B2.out.keep (grown_below L13.out none) (by simp)) c2
  have cv2 := at_string4 (HB.out _ K13.out) cap
  rw [← Hle.out] at cv1 cv2
  clear hb
  have ix0 : ∀ w, (Instr.index 63 (.agg #[.int .i64 i1, .int .i64 e1, .int .i64 i2, .int .i64 e2, .int .i64 i3, .int .i64 e3, .int .i64 i4, .int .i64 e4, .int .i64 i5, .int .i64 e5]) (.int .i64 0)).run Tryd.prog w = .ok (.agg #[.int .i64 i1, .int .i64 e1]) w := fun _ => by kernel_rfl
  have ix1 : ∀ w, (Instr.index 63 (.agg #[.int .i64 i1, .int .i64 e1, .int .i64 i2, .int .i64 e2, .int .i64 i3, .int .i64 e3, .int .i64 i4, .int .i64 e4, .int .i64 i5, .int .i64 e5]) (.int .i64 1)).run Tryd.prog w = .ok (.agg #[.int .i64 i2, .int .i64 e2]) w := fun _ => by kernel_rfl
  have ix2 : ∀ w, (Instr.index 63 (.agg #[.int .i64 i1, .int .i64 e1, .int .i64 i2, .int .i64 e2, .int .i64 i3, .int .i64 e3, .int .i64 i4, .int .i64 e4, .int .i64 i5, .int .i64 e5]) (.int .i64 2)).run Tryd.prog w = .ok (.agg #[.int .i64 i3, .int .i64 e3]) w := fun _ => by kernel_rfl
  have ix3 : ∀ w, (Instr.index 63 (.agg #[.int .i64 i1, .int .i64 e1, .int .i64 i2, .int .i64 e2, .int .i64 i3, .int .i64 e3, .int .i64 i4, .int .i64 e4, .int .i64 i5, .int .i64 e5]) (.int .i64 3)).run Tryd.prog w = .ok (.agg #[.int .i64 i4, .int .i64 e4]) w := fun _ => by kernel_rfl
  have ix4 : ∀ w, (Instr.index 63 (.agg #[.int .i64 i1, .int .i64 e1, .int .i64 i2, .int .i64 e2, .int .i64 i3, .int .i64 e3, .int .i64 i4, .int .i64 e4, .int .i64 i5, .int .i64 e5]) (.int .i64 4)).run Tryd.prog w = .ok (.agg #[.int .i64 i5, .int .i64 e5]) w := fun _ => by kernel_rfl
  go_wp2_with fail
  clear cv1 cv2
  have KL := Lib.hid K13.out
  go_loopw [170] (fun i wr => ∃ (k : Nat), i = .int .i64 k ∧ k ≤ 5 ∧ Hid (Below w.heap.size w wr)) (fun i _ => 5 - (intOf i).toNat)
  case atStart => exact ⟨0, rfl, by omega, KL⟩
  case round =>
    obtain ⟨k, rfl, hk, K⟩ := hrel
    obtain ⟨ok1, ok2, ok3, ok4, ok5⟩ := OK.out
    have KN := Lib.hid (fun o => K.out.alloc K.out.size o)
    obtain rfl | rfl | rfl | rfl | rfl | rfl : k = 0 ∨ k = 1 ∨ k = 2 ∨ k = 3 ∨ k = 4 ∨ k = 5 := by omega
    · clear ok2 ok3 ok4 ok5
      rcases ok1 with ⟨hi, rfl⟩ | ⟨rfl, rfl⟩
      all_goals
        go_wp2_with fail
        go_roundw
        case rel => exact ⟨1, by go_num, by omega, Lib.hid (KN.out _)⟩
        case measure => simp [intOf]
    · clear ok1 ok3 ok4 ok5
      rcases ok2 with ⟨hi, rfl⟩ | ⟨rfl, rfl⟩
      all_goals
        go_wp2_with fail
        go_roundw
        case rel => exact ⟨2, by go_num, by omega, Lib.hid (KN.out _)⟩
        case measure => simp [intOf]
    · clear ok1 ok2 ok4 ok5
      rcases ok3 with ⟨hi, rfl⟩ | ⟨rfl, rfl⟩
      all_goals
        go_wp2_with fail
        go_roundw
        case rel => exact ⟨3, by go_num, by omega, Lib.hid (KN.out _)⟩
        case measure => simp [intOf]
    · clear ok1 ok2 ok3 ok5
      rcases ok4 with ⟨hi, rfl⟩ | ⟨rfl, rfl⟩
      all_goals
        go_wp2_with fail
        go_roundw
        case rel => exact ⟨4, by go_num, by omega, Lib.hid (KN.out _)⟩
        case measure => simp [intOf]
    · clear ok1 ok2 ok3 ok4
      rcases ok5 with ⟨hi, rfl⟩ | ⟨rfl, rfl⟩
      all_goals
        go_wp2_with fail
        go_roundw
        case rel => exact ⟨5, by go_num, by omega, Lib.hid (KN.out _)⟩
        case measure => simp [intOf]
    · clear ok1 ok2 ok3 ok4 ok5
      go_wp2_with fail
      go_ret
      exact ⟨rfl, K.out⟩
set_option maxRecDepth 100000 in
set_option maxHeartbeats 1600000 in
theorem CodecReads_long (a : Option Addr) (cap len : Nat) (w : World) (hl : 20000 < len) :
    Calls Tryd.prog 4 #[.slice a len cap] w fun e w' => e = .returned (.bool true) ∧ Below w.heap.size w w' := by
  have HW := Lib.hid awake_any
  have hl' : (20000 : Int) < len := by omega
  clear hl
  go_enter Tryd.func4, Tryd.ntmps4
  go_wp2_with fail
  refine (HW.out _).mono ?_
  rintro e w1 ⟨rfl, hb⟩
  have K1 := Lib.hid hb
  clear hb
  go_wp2_with fail
  refine (HW.out _).mono ?_
  rintro e w2 ⟨rfl, hb⟩
  have K2 := Lib.hid (K1.out.trans (hb.mono K1.out.size))
  clear hb
  go_wp2_with fail
  go_ret
  exact ⟨rfl, K2.out⟩
theorem CodecReads_any (G : Nat) (a : Option Addr) (cap : Nat) (l : List UInt8) (w : World) (h : Env G w a l cap) (hn : a = none → cap = 0) :
    Calls Tryd.prog 4 #[.slice a l.length cap] w fun e w' => e = .returned (.bool true) ∧ Below w.heap.size w w' := by
  by_cases h1 : l.length ≤ 20000
  · exact CodecReads_short G a cap l w h hn h1
  · exact CodecReads_long a cap _ w (by omega)
end Go.Proofs.YthdaibmminibhaaDoor
