/- Contracts where there are too many bytes for a frame; slices of zeros. -/
import Derived.Test.YthdaibmminibhaaDoorList5
import Derived.Test.YthdaibmminibhaaDoorAwake5
import Derived.Laws.OwnMore
namespace Go.Proofs.YthdaibmminibhaaDoor
open Go.RowKit

theorem made_zero (n : Nat) (hn : n ≤ 1000000) : ∃ C : Array Value, (∀ w : World, (Instr.makeSlice 32 (.int .i64 n) (.int .i64 n)).run Tryd.prog w = .ok (.slice (some ⟨w.heap.size, 0, none⟩) n n) (w.alloc (.cells C 5)))
    ∧ (∀ (B : Nat) (w : World), B ≤ w.heap.size → OwnB B (w.alloc (.cells C 5)) (.slice (some ⟨w.heap.size, 0, none⟩) n n) (List.replicate n 0)) := by
  obtain ⟨i0, hi, hz0, hz1, hz2⟩ := info_parts u8_info
  refine ⟨madeCells #[.int .u8 0] n, fun w => ?_, fun B w hB => ?_⟩
  · have h := run_makeSlice (P := Tryd.prog) w 32 5 i0 (.int .u8 0) Tryd.underlying32 hi hz0 .i64 .i64 (n : Int) (n : Int) (by omega) (by omega) (by rw [hz1]; omega) (by rw [hz2]; omega) (by omega)
    rw [hz1] at h
    simpa [Value.cells] using h
  · refine ⟨by simp, .inr ⟨w.heap.size, n, _, by simp, hB, heap_alloc_new _ _, by simp, by unfold maxLen; omega, by rw [size_madeCells]; omega, ?_⟩⟩
    rw [toList_madeCells_one]
    simp [bV]
set_option maxHeartbeats 1600000 in
theorem enclose_no (a : Option Addr) (len cap : Nat) (w : World) (h : 200000 < len) (hF : SentF w) :
    Calls Tryd.prog 66 #[.slice a len cap] w fun e w' => ∃ t p, e = .returned (.tuple #[.slice none 0 0, .iface 131 (.agg #[.int .i64 3, .iface t p])]) ∧ w.grownBy w' none := by
  obtain ⟨⟨tg, pg, cg⟩, _⟩ := hF
  have h' : (200000 : Int) < len := by omega
  go_enter Tryd.func66, Tryd.ntmps66
  go_wp2_with fail
  go_quiet (fail)
  go_wp2_with fail
  go_ret2
  exact ⟨tg, pg, rfl, grown_drewN (grown_refl _ _) _⟩
set_option maxHeartbeats 1600000 in
theorem encode_no (G : Nat) (a : Option Addr) (len cap : Nat) (w : World) (h : 200000 < len) (hF : SentF w) (hE : ErrT G w) :
    Calls Tryd.prog 34 #[.slice a len cap] w fun e w' => e = .returned (.tuple #[.slice none 0 0, .int .i64 3]) ∧ w.grownBy w' none := by
  have HE := Lib.hid (enclose_no a len cap w h hF)
  have HT := Lib.hid (fun (t : TypeId) (q : Value) (W : World) (hg : w.grownBy W none) => told_len G 3 t q W (hE.none hg))
  clear hF hE
  go_enter Tryd.func34, Tryd.ntmps34
  go_wp2_with fail
  refine HE.out.mono ?_
  rintro e w1 ⟨t, p, rfl, hg⟩
  have HG := Lib.hid hg
  clear hg
  go_wp2_with fail
  refine (HT.out _ _ _ HG.out).mono ?_
  rintro e w2 ⟨rfl, hg⟩
  have HG2 := Lib.hid (HG.out.trans hg)
  clear hg
  go_wp2_with fail
  go_ret2
  exact ⟨rfl, HG2.out⟩
set_option maxRecDepth 100000 in
set_option maxHeartbeats 3200000 in
theorem list2_no (G : Nat) (a : Option Addr) (cap : Nat) (p0 p1 : Pc) (w : World) (h : PLow w.heap.size w a [p0, p1]) (ht : Turns w) (hF : SentF w) (hE : ErrT G w) (h0 : p0.l.length ≤ 200000) (hn0 : p0.a = none → p0.cap = 0) (h1 : 200000 < p1.l.length) :
    Calls Tryd.prog 40 #[.slice a 2 cap] w (fun e w' => e = .returned (.tuple #[.slice none 0 0, .int .i64 3]) ∧ Below w.heap.size w w') := by
  obtain ⟨b, off, rfl, _, _⟩ := h.at (i := 0) (by simp)
  obtain ⟨_, _, e0, _, c0⟩ := h.at (i := 0) (by simp)
  obtain ⟨_, _, e1, _, c1⟩ := h.at (i := 1) (by simp)
  cases e0
  cases e1
  have HE0 := Lib.hid (fun (W : World) (hW : Below w.heap.size w W) => enclose_yes p0.a p0.cap p0.l W (((h.2.1 p0 (by simp)).keep (grown_below hW none) (by simp)).mono hW.size) hn0 (ht.keep (grown_below hW none)) h0)
  have HE1 := Lib.hid (fun (W : World) (hW : Below w.heap.size w W) => enclose_no p1.a p1.l.length p1.cap W h1 (hF.keep (grown_below hW none)))
  have HT := Lib.hid (fun (t : TypeId) (q : Value) (W : World) (hW : Below w.heap.size w W) => told_len G 3 t q W (hE.none (grown_below hW none)))
  have HP := Lib.hid h
  have C0 := Lib.hid (fun (W : World) (hW : Below w.heap.size w W) => (grown_below hW none).cell c0 (by simp))
  have C1 := Lib.hid (fun (W : World) (hW : Below w.heap.size w W) => (grown_below hW none).cell c1 (by simp))
  have hfl : (frB p0.l).length ≤ 300000 := by have := aheadB_len h0; rw [frB_len]; omega
  obtain ⟨pa, pc, pl⟩ := p0
  obtain ⟨qa, qc, ql⟩ := p1
  simp only [List.getD_cons_zero, List.getD_cons_succ, Pc.v, Nat.add_zero] at C0 C1 HE0 HE1 hfl
  generalize frB pl = fr at *
  generalize pl.length = pn at *
  generalize ql.length = qn at *
  clear h ht hF hE c0 c1 HP h0 h1
  go_enter Tryd.func40, Tryd.ntmps40
  go_wp2_with fail
  go_loopw [4, 11] (fun ov i wr => Hid (Below w.heap.size w wr) ∧ ((i = .int .i64 0 ∧ ov = .slice none 0 0) ∨ (i = .int .i64 1))) (fun _ i _ => 2 - (intOf i).toNat)
  case atStart => exact ⟨Lib.hid (Below.refl _ _), .inl ⟨rfl, rfl⟩⟩
  case round =>
    obtain ⟨K, ⟨rfl, rfl⟩ | rfl⟩ := hrel
    · have c0 := C0.out _ K.out
      have ON := Lib.hid (OwnB.nil w.heap.size wr)
      have HE2 := Lib.hid (HE0.out _ K.out)
      go_wp2_with fail
      refine HE2.out.mono ?_
      rintro e w2 ⟨v, rfl, ho, hb⟩
      have K2 := Lib.hid (K.out.trans (hb.mono K.out.size))
      have hs2 : w.heap.size ≤ w2.heap.size := K2.out.size
      have O2 := Lib.hid (OwnB.nil w.heap.size w2)
      obtain ⟨a2, c2, rfl, hb2, hc2, hcm2, hn2⟩ := ho.read2 (by omega)
      have HB2 := Lib.hid hb2
      clear ho hb hb2
      go_wp2_with (at_builtin; refine wpList_append_bytes rfl (.tmp 24) (.tmp 25) rfl w.heap.size w2.heap.size _ [] rfl O2.out a2 fr.length c2 fr rfl rfl HB2.out hn2 ?z1 hs2 ?_)
      case z1 => simp only [List.length_nil]; omega
      intro v3 w3 o3 gr3 _
      have K3 := Lib.hid (O2.out.grown K2.out hs2 gr3)
      clear o3 gr3
      go_wp2_with fail
      go_roundw
      case rel => exact ⟨K3, .inr (by go_num)⟩
      case measure => simp [intOf]
    · have c1 := C1.out _ K.out
      have HE2 := Lib.hid (HE1.out _ K.out)
      go_wp2_with fail
      refine HE2.out.mono ?_
      rintro e w2 ⟨t, p, rfl, hg⟩
      have K2 := Lib.hid (K.out.trans ((below_grown hg).mono K.out.size))
      clear hg
      go_wp2_with fail
      refine (HT.out _ _ _ K2.out).mono ?_
      rintro e w3 ⟨rfl, hg⟩
      have K3 := Lib.hid (K2.out.trans ((below_grown hg).mono K2.out.size))
      clear hg
      go_wp2_with fail
      go_ret2
      exact ⟨rfl, K3.out⟩
end Go.Proofs.YthdaibmminibhaaDoor
