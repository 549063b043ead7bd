import Derived.Test.YtpklajadfbigcaaGreatDoorZt07
import Derived.Lib.IndexBytes
import Derived.Test.YtpklajadfbigcaaGreatDoorZt02
import Derived.Test.YtpklajadfbigcaaGreatDoorZt01
import Derived.Deep.DeepCutAuto
import Derived.Deep.CutBlock
import Derived.Test.YtpklajadfbigcaaGreatDoorZt00
import Derived.Deep.AppendLies
import Derived.Maps.AppendAt
import Derived.Test.YtpklajadfbigcaaGreatDoorZt06
import Derived.Laws.IdiomStrings
import Derived.Lib.UnsafeStr
set_option linter.unusedSimpArgs false
set_option linter.unusedVariables false
namespace Go.Proofs.YtpklajadfbigcaaGreatDoor
open Go.RowKit

end Go.Proofs.YtpklajadfbigcaaGreatDoor
namespace Go.Proofs.YtpklajadfbigcaaGreatDoor
open Go.RowKit

theorem refCmpV_any (x y : Vl) (w : World) (gx : x.good = true) (gy : y.good = true) (sx : x.s.size ≤ maxLen) :
    Calls Tryz.prog 32 #[.agg #[.int .i64 x.k, .int .i64 x.n, .string x.s], .agg #[.int .i64 y.k, .int .i64 y.n, .string y.s]] w fun e w' => e = .returned (.int .i64 (x.ord y)) ∧ Below w.heap.size w w' :=
  (refCompare_any x.k x.n x.s y.k y.n y.s w sx).mono fun _ _ ⟨he, hb⟩ => ⟨by rw [he, ordC_ordV gx gy]; rfl, hb⟩

end Go.Proofs.YtpklajadfbigcaaGreatDoor
namespace Go.Proofs.YtpklajadfbigcaaGreatDoor
namespace Wd
open Go.RowKit

theorem wrap_u64 {x : Int} (h : 0 ≤ x) (h1 : x < 18446744073709551616) : IntKind.u64.wrap x = x := by
  simp [IntKind.wrap, IntKind.signed, IntKind.bits]
  omega
theorem div_round (u n q r : Nat) (hn : n < 4294967296) (hr : r < 4294967296) (h : guess u n q r) :
    ∃ x1 x2 x3 : Nat, IntKind.u64.wrap ((q : Int) * 2313682944) = (x1 : Int) ∧ IntKind.u64.wrap (4294967296 * (r : Int)) = (x2 : Int) ∧ IntKind.u64.wrap ((x2 : Int) + (n : Int)) = (x3 : Int) ∧ x1 = q * 2313682944 ∧ x3 = r * 4294967296 + n := by
  unfold guess at h
  refine ⟨q * 2313682944, 4294967296 * r, 4294967296 * r + n, ?_, ?_, ?_, rfl, by omega⟩
  · rw [wrap_u64 (by omega) (by omega)]; omega
  · rw [wrap_u64 (by omega) (by omega)]; omega
  · rw [wrap_u64 (by omega) (by omega)]; omega

set_option maxRecDepth 100000 in
set_option maxHeartbeats 3200000 in
theorem div_gen (Y : Int) (hi lo a c n1 n0 qs rs Q1 u q0 r0 Q0 A1 A2 A3 B1 B2 C1 C2 C3 C4 : Nat) (w : World) (hY0 : (Y == 0) = false) (hY1 : (hi : Int) < Y) (hh : ((hi : Int) == 0) = false)
    (wY : IntKind.u64.wrap Y = Y) (e1 : Y / 4294967296 = (a : Int)) (e2 : bits .and .u64 Y 4294967295 = (c : Int)) (wh : IntKind.u64.wrap (hi : Int) = (hi : Int)) (wl : IntKind.u64.wrap (lo : Int) = (lo : Int))
    (e3 : (lo : Int) / 18446744073709551616 = 0) (e4 : bits .or .u64 (hi : Int) 0 = (hi : Int)) (e5 : (lo : Int) / 4294967296 = (n1 : Int)) (e6 : bits .and .u64 (lo : Int) 4294967295 = (n0 : Int)) (ha2 : ¬ a = 0)
    (e7 : IntKind.u64.wrap ((hi : Int) / (a : Int)) = (qs : Int)) (e8 : IntKind.u64.wrap ((hi : Int) - IntKind.u64.wrap ((qs : Int) * (a : Int))) = (rs : Int))
    (S1 : Hid ((rs : Int) < 4294967296 ∧ guess hi n1 qs rs)) (R1 : Hid (∀ q r : Nat, guess hi n1 q r → r < 4294967296 → ∃ x1 x2 x3 : Nat, IntKind.u64.wrap ((q : Int) * (c : Int)) = (x1 : Int) ∧ IntKind.u64.wrap (4294967296 * (r : Int)) = (x2 : Int) ∧ IntKind.u64.wrap ((x2 : Int) + (n1 : Int)) = (x3 : Int) ∧ Hid (True ∧ ((4294967296 ≤ q ∨ x3 < x1) → (4294967296 ≤ q ∨ r * 4294967296 + n1 < q * 2313682944)) ∧ (¬ (4294967296 ≤ q ∨ x3 < x1) → q = Q1)))) (D1 : Hid (∀ q r : Nat, guess hi n1 q r → r < 4294967296 → (4294967296 ≤ q ∨ r * 4294967296 + n1 < q * 2313682944) → ∃ q' r' : Nat, IntKind.u64.wrap ((q : Int) - 1) = (q' : Int) ∧ IntKind.u64.wrap ((r : Int) + (a : Int)) = (r' : Int) ∧ Hid (guess hi n1 q' r' ∧ q' + 1 = q ∧ q' ≤ 4294967297))) (O1 : Hid (∀ q r : Nat, guess hi n1 q r → 4294967296 ≤ r → q ≤ 4294967297 → q = Q1))
    (S2 : Hid ((r0 : Int) < 4294967296 ∧ guess u n0 q0 r0)) (R2 : Hid (∀ q r : Nat, guess u n0 q r → r < 4294967296 → ∃ x1 x2 x3 : Nat, IntKind.u64.wrap ((q : Int) * (c : Int)) = (x1 : Int) ∧ IntKind.u64.wrap (4294967296 * (r : Int)) = (x2 : Int) ∧ IntKind.u64.wrap ((x2 : Int) + (n0 : Int)) = (x3 : Int) ∧ Hid (True ∧ ((4294967296 ≤ q ∨ x3 < x1) → (4294967296 ≤ q ∨ r * 4294967296 + n0 < q * 2313682944)) ∧ (¬ (4294967296 ≤ q ∨ x3 < x1) → q = Q0)))) (D2 : Hid (∀ q r : Nat, guess u n0 q r → r < 4294967296 → (4294967296 ≤ q ∨ r * 4294967296 + n0 < q * 2313682944) → ∃ q' r' : Nat, IntKind.u64.wrap ((q : Int) - 1) = (q' : Int) ∧ IntKind.u64.wrap ((r : Int) + (a : Int)) = (r' : Int) ∧ Hid (guess u n0 q' r' ∧ q' + 1 = q ∧ q' ≤ 4294967297))) (O2 : Hid (∀ q r : Nat, guess u n0 q r → 4294967296 ≤ r → q ≤ 4294967297 → q = Q0))
    (g1 : IntKind.u64.wrap ((hi : Int) * 4294967296) = (A1 : Int)) (g2 : IntKind.u64.wrap ((A1 : Int) + (n1 : Int)) = (A2 : Int)) (g3 : IntKind.u64.wrap ((Q1 : Int) * Y) = (A3 : Int)) (g4 : IntKind.u64.wrap ((A2 : Int) - (A3 : Int)) = (u : Int))
    (g5 : IntKind.u64.wrap ((u : Int) / (a : Int)) = (q0 : Int)) (g6 : IntKind.u64.wrap ((u : Int) - IntKind.u64.wrap ((q0 : Int) * (a : Int))) = (r0 : Int))
    (g7 : IntKind.u64.wrap ((Q1 : Int) * 4294967296) = (B1 : Int)) (g8 : IntKind.u64.wrap ((B1 : Int) + (Q0 : Int)) = (B2 : Int))
    (g9 : IntKind.u64.wrap ((u : Int) * 4294967296) = (C1 : Int)) (g10 : IntKind.u64.wrap ((C1 : Int) + (n0 : Int)) = (C2 : Int)) (g11 : IntKind.u64.wrap ((Q0 : Int) * Y) = (C3 : Int)) (g12 : IntKind.u64.wrap ((C2 : Int) - (C3 : Int)) = (C4 : Int))
    (HL : Hid (∀ w, Calls Tryz.prog 90 #[.int .u64 Y] w fun e w' => e = .returned (.int .i64 0) ∧ w = w')) :
    Calls Tryz.prog 86 #[.int .u64 hi, .int .u64 lo, .int .u64 Y] w fun e w' => e = .returned (.tuple #[.int .u64 B2, .int .u64 C4]) ∧ w = w' := by
  go_enter Tryz.func86, Tryz.ntmps86
  go_wp2_with fail
  refine (HL.out _).mono ?_
  rintro e w1 ⟨rfl, rfl⟩
  go_upto_block 0 with fail
  go_cut [15] (fun p wx => p = .int .u64 Q1 ∧ w = wx)
  case first =>
    go_wp2_with fail
    go_loop [15, 16] (fun s t => ∃ q r : Nat, s = .int .u64 q ∧ t = .int .u64 r ∧ (r : Int) < 4294967296 ∧ Hid (guess hi n1 q r)) (fun s _ => (intOf s).toNat)
    case atStart => exact ⟨_, _, rfl, rfl, S1.out.1, Lib.hid S1.out.2⟩
    case round =>
      obtain ⟨q, r, rfl, rfl, hr, G⟩ := hrel
      obtain ⟨x1, x2, x3, f1, f2, f3, f4⟩ := R1.out q r G.out (by omega)
      by_cases t : 4294967296 ≤ q ∨ x3 < x1
      · obtain ⟨q', r', f5, f6, f7⟩ := D1.out q r G.out (by omega) (f4.out.2.1 t)
        have hb : Hid (¬ (r' : Int) < 4294967296 → q' = Q1) := Lib.hid fun h => O1.out q' r' f7.out.1 (by omega) f7.out.2.2
        have hm : q' < q := by have := f7.out.2.1; omega
        rcases t with t | t
        all_goals
          by_cases b : (r' : Int) < 4294967296
          · have b1 : ¬ (4294967296 : Int) ≤ (r' : Int) := by omega
            have t1 : (4294967296 : Int) ≤ (q : Int) ∨ ¬ (4294967296 : Int) ≤ (q : Int) := by omega
            rcases t1 with t1 | t1
            all_goals
              (try have t2 : (x3 : Int) < (x1 : Int) := by omega)
              go_wp2_with fail
              go_round
              case rel => exact ⟨q', r', rfl, rfl, b, Lib.hid f7.out.1⟩
              case measure => simp [intOf]; omega
          · have b1 : (4294967296 : Int) ≤ (r' : Int) := by omega
            have hq := hb.out b
            have t1 : (4294967296 : Int) ≤ (q : Int) ∨ ¬ (4294967296 : Int) ≤ (q : Int) := by omega
            rcases t1 with t1 | t1
            all_goals
              (try have t2 : (x3 : Int) < (x1 : Int) := by omega)
              go_wp2_with fail
              go_meet
              exact ⟨rfl, rfl⟩
      · have t1 : ¬ (4294967296 : Int) ≤ (q : Int) := by omega
        have t2 : ¬ (x3 : Int) < (x1 : Int) := by omega
        have hq := Lib.hid (f4.out.2.2 t)
        clear t
        go_wp2_with fail
        go_meet
        exact ⟨by rw [hq.out], rfl⟩
  case rest =>
    obtain ⟨rfl, rfl⟩ := hcut
    clear S1 R1 D1 O1
    go_upto_block 2 with fail
    go_cut [18] (fun p wx => p = .int .u64 Q0 ∧ w = wx)
    case first =>
      go_wp2_with fail
      go_loop [18, 16] (fun s t => ∃ q r : Nat, s = .int .u64 q ∧ t = .int .u64 r ∧ (r : Int) < 4294967296 ∧ Hid (guess u n0 q r)) (fun s _ => (intOf s).toNat)
      case atStart => exact ⟨_, _, rfl, rfl, S2.out.1, Lib.hid S2.out.2⟩
      case round =>
        obtain ⟨q, r, rfl, rfl, hr, G⟩ := hrel
        obtain ⟨x1, x2, x3, f1, f2, f3, f4⟩ := R2.out q r G.out (by omega)
        by_cases t : 4294967296 ≤ q ∨ x3 < x1
        · obtain ⟨q', r', f5, f6, f7⟩ := D2.out q r G.out (by omega) (f4.out.2.1 t)
          have hb : Hid (¬ (r' : Int) < 4294967296 → q' = Q0) := Lib.hid fun h => O2.out q' r' f7.out.1 (by omega) f7.out.2.2
          have hm : q' < q := by have := f7.out.2.1; omega
          rcases t with t | t
          all_goals
            by_cases b : (r' : Int) < 4294967296
            · have b1 : ¬ (4294967296 : Int) ≤ (r' : Int) := by omega
              have t1 : (4294967296 : Int) ≤ (q : Int) ∨ ¬ (4294967296 : Int) ≤ (q : Int) := by omega
              rcases t1 with t1 | t1
              all_goals
                (try have t2 : (x3 : Int) < (x1 : Int) := by omega)
                go_wp2_with fail
                go_round
                case rel => exact ⟨q', r', rfl, rfl, b, Lib.hid f7.out.1⟩
                case measure => simp [intOf]; omega
            · have b1 : (4294967296 : Int) ≤ (r' : Int) := by omega
              have hq := hb.out b
              have t1 : (4294967296 : Int) ≤ (q : Int) ∨ ¬ (4294967296 : Int) ≤ (q : Int) := by omega
              rcases t1 with t1 | t1
              all_goals
                (try have t2 : (x3 : Int) < (x1 : Int) := by omega)
                go_wp2_with fail
                go_meet
                exact ⟨rfl, rfl⟩
        · have t1 : ¬ (4294967296 : Int) ≤ (q : Int) := by omega
          have t2 : ¬ (x3 : Int) < (x1 : Int) := by omega
          have hq := Lib.hid (f4.out.2.2 t)
          clear t
          go_wp2_with fail
          go_meet
          exact ⟨by rw [hq.out], rfl⟩
    case rest =>
      obtain ⟨rfl, rfl⟩ := hcut
      clear S2 R2 D2 O2
      go_wp2_with fail
      go_ret2
      exact ⟨rfl, rfl⟩
end Wd
end Go.Proofs.YtpklajadfbigcaaGreatDoor
namespace Go.Proofs.YtpklajadfbigcaaGreatDoor
open Go.RowKit

theorem grown_reflT (w : World) (row : Option Nat) : w.grownBy w row := ⟨rfl, rfl, rfl, Nat.le_refl _, fun _ _ _ => rfl⟩
theorem grown_drewT {w w' : World} {row : Option Nat} (h : w.grownBy w' row) : w.grownBy w'.drew row := ⟨h.os, h.tape, h.output, h.size, h.block⟩
def RwS (S : Nat → Prop) (w : World) (a : Option Addr) (l : List Vl) : Prop :=
  l.length ≤ 4294967296 ∧ (∀ x ∈ l, x.s.size ≤ maxLen) ∧ (l = [] ∨ ∃ b off, a = some ⟨b, off, none⟩ ∧ S b ∧ b < w.heap.size ∧ ∀ i, i < l.length → w.cell? ⟨b, off + i * 3, none⟩ = some (.int .i64 (l.getD i default).k) ∧ w.cell? ⟨b, off + i * 3 + 1, none⟩ = some (.int .i64 (l.getD i default).n) ∧ w.cell? ⟨b, off + i * 3 + 2, none⟩ = some (.string (l.getD i default).s))
theorem RwS.row {S : Nat → Prop} {w : World} {a : Option Addr} {l : List Vl} (h : RwS S w a l) : RowAt w a l :=
  ⟨by have := h.1; omega, h.2.1, h.2.2.imp id fun ⟨b, off, e, _, hlt, hc⟩ => ⟨b, off, e, hlt, hc⟩⟩
def Stays (S : Nat → Prop) (w w' : World) : Prop := w.heap.size ≤ w'.heap.size ∧ ∀ b, S b → b < w.heap.size → w'.heap[b]? = w.heap[b]?
theorem Stays.of {S : Nat → Prop} {w w' : World} (h : w.grownBy w' none) : Stays S w w' := ⟨h.size, fun b _ hb => h.block b hb (by simp)⟩
theorem RwS.keep {S : Nat → Prop} {w w' : World} {a : Option Addr} {l : List Vl} (h : RwS S w a l) (hk : Stays S w w') : RwS S w' a l := by
  refine ⟨h.1, h.2.1, h.2.2.imp id fun ⟨b, off, e, hs, hlt, hc⟩ => ⟨b, off, e, hs, Nat.lt_of_lt_of_le hlt hk.1, fun i hi => ?_⟩⟩
  have hb := hk.2 b hs hlt
  exact ⟨(World.cell?_of_block (a := ⟨b, _, none⟩) hb).trans (hc i hi).1, (World.cell?_of_block (a := ⟨b, _, none⟩) hb).trans (hc i hi).2.1, (World.cell?_of_block (a := ⟨b, _, none⟩) hb).trans (hc i hi).2.2⟩
theorem RwS.mono {S S' : Nat → Prop} {w : World} {a : Option Addr} {l : List Vl} (h : RwS S w a l) (hs : ∀ b, b < w.heap.size → S b → S' b) : RwS S' w a l :=
  ⟨h.1, h.2.1, h.2.2.imp id fun ⟨b, off, e, h1, h2, hc⟩ => ⟨b, off, e, hs b h2 h1, h2, hc⟩⟩
end Go.Proofs.YtpklajadfbigcaaGreatDoor
namespace Go.Proofs.YtpklajadfbigcaaGreatDoor
open Go.RowKit

def textRes (o : Option (List UInt8)) : Value := match o with
  | none => .tuple #[vz, .int .i64 2]
  | some t => if t.length ≤ 60 then .tuple #[.agg #[.int .i64 3, .int .i64 0, .string ⟨t.toArray⟩], .int .i64 0] else .tuple #[vz, .int .i64 1]

end Go.Proofs.YtpklajadfbigcaaGreatDoor
