/- The law FrameReads walked. -/
import Derived.Test.YthdaibmminibhaaDoorRefFr
import Derived.Test.YthdaibmminibhaaDoorAwake5
namespace Go.Proofs.YthdaibmminibhaaDoor
open Go.RowKit

theorem nil_string (cap : Nat) (w : World) : (convert 32 9 (.slice none 0 cap)).run Tryd.prog w = .ok (.string ⟨#[]⟩) w := by kernel_rfl
theorem at_string {B : Nat} {w : World} {a : Option Addr} {l : List UInt8} (h : BAt B w a l) (cap : Nat) : (convert 32 9 (.slice a l.length cap)).run Tryd.prog w = .ok (.string ⟨l.toArray⟩) w := by
  cases a with
  | none =>
    obtain rfl : l = [] := by rcases h.2 with h | ⟨_, _, h, _⟩; exact h; cases h
    exact nil_string cap w
  | some ad =>
    refine run_convert_bytes_back w _ _ 5 ad cap l Tryd.underlying32 Tryd.underlying5 Tryd.underlying9 (fun j hj => ?_)
    obtain ⟨b, off, e, _, hc⟩ := h.at (i := j) hj
    cases e
    rw [add_at, hc]
    simp [List.getD, hj, bV]
theorem Env3.below {G : Nat} {w w' : World} {a : Option Addr} {l : List UInt8} {cap : Nat} (h : Env3 G w a l cap) (hb : Below w.heap.size w w') : Env3 G w' a l cap := h.keep (grown_below hb none)
set_option maxRecDepth 100000 in
set_option maxHeartbeats 1600000 in
theorem FrameReads_any (G : Nat) (a : Option Addr) (cap : Nat) (l : List UInt8) (w : World) (h : Env3 G w a l cap) (hF : SentF w) (hM : SentM w) (ht : Turns w) :
    Calls Tryd.prog 7 #[.slice a l.length cap] w fun e w' => e = .returned (.bool true) ∧ Below w.heap.size w w' := by
  have HW := Lib.hid awake5_any
  have HT := Lib.hid ht
  have HD := Lib.hid (fun W (hW : Below w.heap.size w W) (hl : l.length ≤ 5000) => decode_any G a l cap W (h.below hW) (hF.keep (grown_below hW none)) (hM.keep (grown_below hW none)) (ht.keep (grown_below hW none)) (by omega))
  have HR := Lib.hid (fun W (hW : Below w.heap.size w W) => refDecode_any a l cap W (h.below hW).b h.c h.m)
  clear h hF hM ht
  generalize decL l = x at *
  generalize l.length = len at *
  by_cases h5 : len ≤ 5000
  · have h5' : decide ((5000 : Int) < len) = false := by simp; omega
    have HD2 := Lib.hid (fun W hW => HD.out W hW h5)
    clear HD
    go_enter Tryd.func7, Tryd.ntmps7
    go_wp2_with fail
    refine (HW.out _ HT.out).mono ?_
    rintro e w1 ⟨rfl, hb⟩
    have K1 := Lib.hid hb
    clear hb
    go_wp2_with fail
    refine (HD2.out _ K1.out).mono ?_
    rintro e w2 ⟨v, rfl, ho, hb⟩
    have O2 := Lib.hid ho
    have K2 := Lib.hid (K1.out.trans (hb.mono K1.out.size))
    clear hb ho
    go_wp2_with fail
    refine (HR.out _ K2.out).mono ?_
    rintro e w3 ⟨p, c, rfl, hp, hg⟩
    have hs := at_string hp c
    have O3 := Lib.hid (O2.out.stay (below_grown hg))
    have hl : x.2.length ≤ 9223372036854775807 := hp.1
    obtain ⟨a3, c3, rfl, hb3, _, _, _⟩ := O3.out.read2 hl
    have hs3 := at_string hb3 c3
    have K3 := Lib.hid (K2.out.trans ((below_grown hg).mono K2.out.size))
    clear hb3 hp hg hl
    go_wp2_with fail
    go_ret
    exact ⟨ret_bool (by simp), K3.out⟩
  · have h5' : decide ((5000 : Int) < len) = true := by simp; omega
    go_enter Tryd.func7, Tryd.ntmps7
    go_wp2_with fail
    refine (HW.out _ HT.out).mono ?_
    rintro e w1 ⟨rfl, hb⟩
    have K1 := Lib.hid hb
    clear hb
    go_wp2_with fail
    refine (HW.out _ (HT.out.keep (grown_below K1.out none))).mono ?_
    rintro e w2 ⟨rfl, hb⟩
    have K2 := Lib.hid (K1.out.trans (hb.mono K1.out.size))
    clear hb
    go_wp2_with fail
    go_ret
    exact ⟨rfl, K2.out⟩
end Go.Proofs.YthdaibmminibhaaDoor
