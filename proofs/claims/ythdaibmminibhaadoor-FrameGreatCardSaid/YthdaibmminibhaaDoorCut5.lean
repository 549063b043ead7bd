/- Contracts of the program's measure and cut. -/
import Derived.Test.YthdaibmminibhaaDoorEncl
import Derived.Test.YthdaibmminibhaaDoorNum3
namespace Go.Proofs.YthdaibmminibhaaDoor
open Go.RowKit

/-- Where the inside of the frame at the front begins and ends. -/
def msr : List UInt8 → Option (Nat × Nat)
  | [] => none
  | c :: t => if c = 83 then (match readN t with
    | none => none
    | some (n, k) => if n ≤ 200000 ∧ 1 + k + n + 4 ≤ t.length + 1 then some (1 + k, 1 + k + n) else none) else none
theorem msr_head (t : List UInt8) : msr (83 :: t) = (match readN t with | none => none | some (n, k) => if n ≤ 200000 ∧ 1 + k + n + 4 ≤ t.length + 1 then some (1 + k, 1 + k + n) else none) := by rw [msr, if_pos rfl]
theorem msr_other {c : UInt8} (h : c ≠ 83) (t : List UInt8) : msr (c :: t) = none := by rw [msr, if_neg h]
theorem BAt.sub {B : Nat} {w : World} {b off : Nat} {l : List UInt8} (h : BAt B w (some ⟨b, off, none⟩) l) {q cap : Nat} (hq : q ≤ l.length) (hc : l.length ≤ cap) : BAt B w (if cap = q then some ⟨b, off, none⟩ else some ⟨b, off + q, none⟩) (l.drop q) := by
  refine ⟨by rw [List.length_drop]; have := h.1; omega, ?_⟩
  rcases h.2 with h0 | ⟨b', off', e, hlt, hcell⟩
  · exact .inl (by rw [h0]; simp)
  · simp only [Option.some.injEq, Addr.mk.injEq] at e
    obtain ⟨rfl, rfl, _⟩ := e
    by_cases e : cap = q
    · exact .inl (List.drop_eq_nil_of_le (by omega))
    · rw [if_neg e]
      refine .inr ⟨b, off + q, rfl, hlt, fun i hi => ?_⟩
      rw [List.length_drop] at hi
      have := hcell (q + i) (by omega)
      rw [Nat.add_assoc, this]
      simp [List.getD, List.getElem?_drop]
/-- The program's errors of frames can be read. -/
def SentF (w : World) : Prop := (∃ t p, w.cell? ⟨5, 0, none⟩ = some (.iface t p)) ∧ (∃ t p, w.cell? ⟨11, 0, none⟩ = some (.iface t p)) ∧ (∃ t p, w.cell? ⟨12, 0, none⟩ = some (.iface t p)) ∧ (∃ p, w.cell? ⟨6, 0, none⟩ = some (.iface 223 (.pointer (some p))))
theorem SentF.keep {w w' : World} (h : SentF w) (hg : w.grownBy w' none) : SentF w' := by
  obtain ⟨⟨t1, p1, h1⟩, ⟨t2, p2, h2⟩, ⟨t3, p3, h3⟩, ⟨p5, h5⟩⟩ := h
  exact ⟨⟨t1, p1, hg.cell h1 (by simp)⟩, ⟨t2, p2, hg.cell h2 (by simp)⟩, ⟨t3, p3, hg.cell h3 (by simp)⟩, ⟨p5, hg.cell h5 (by simp)⟩⟩
/-- .. the one of bytes behind a frame. -/
def SentM (w : World) : Prop := ∃ t p, w.cell? ⟨0, 0, none⟩ = some (.iface t p)
theorem SentM.keep {w w' : World} (h : SentM w) (hg : w.grownBy w' none) : SentM w' := by
  obtain ⟨t1, p1, h1⟩ := h
  exact ⟨t1, p1, hg.cell h1 (by simp)⟩
def MsrPost (w : World) (r : Option (Nat × Nat)) (e : Ending) (w' : World) : Prop :=
  (∀ f t, r = some (f, t) → e = .returned (.tuple #[.int .i64 f, .int .i64 t, .nilIface])) ∧ (r = none → ∃ t p, e = .returned (.tuple #[.int .i64 0, .int .i64 0, .iface t p])) ∧ w.grownBy w' none
theorem MsrPost.no {w w' : World} {t : TypeId} {p : Value} {e : Ending} (h : e = .returned (.tuple #[.int .i64 0, .int .i64 0, .iface t p])) (hg : w.grownBy w' none) : MsrPost w none e w' := ⟨fun _ _ h => (by cases h), fun _ => ⟨_, _, h⟩, hg⟩
theorem MsrPost.yes {w w' : World} {f t : Nat} {e : Ending} (h : e = .returned (.tuple #[.int .i64 f, .int .i64 t, .nilIface])) (hg : w.grownBy w' none) : MsrPost w (some (f, t)) e w' := ⟨fun _ _ h2 => (by cases h2; exact h), fun h => (by cases h), hg⟩

set_option maxRecDepth 100000 in
set_option maxHeartbeats 3200000 in
theorem measure_any (G : Nat) (a : Option Addr) (l : List UInt8) (cap : Nat) (w : World) (h : Env3 G w a l cap) (hF : SentF w) (hlen : l.length ≤ 100000000) :
    Calls Tryd.prog 91 #[.slice a l.length cap] w (MsrPost w (msr l)) := by
  have hcl := h.c
  have hcm := h.m
  have HF := Lib.hid hF
  obtain ⟨⟨tg, pg, cg⟩, ⟨ts, ps, cs⟩, ⟨th, ph, ch⟩, _⟩ := hF
  cases l with
  | nil =>
    clear h
    go_enter Tryd.func91, Tryd.ntmps91
    go_wp2_with fail
    go_quiet (fail)
    go_wp2_with fail
    go_ret3
    exact MsrPost.no rfl (grown_drewN (grown_refl _ _) _)
  | cons c t =>
    obtain ⟨b, off, rfl, hlt, hc0⟩ := h.b.at (i := 0) (by simp)
    rw [Nat.add_zero] at hc0
    simp only [List.getD_cons_zero] at hc0
    have hpos : ((t.length : Int) + 1 == 0) = false := beq_eq_false_iff_ne.2 (by omega)
    by_cases h83 : c = 83
    · subst h83
      have c83 : w.cell? ⟨b, off, none⟩ = some (.int .u8 83) := hc0
      rw [msr_head]
      have hsub := h.b.sub (q := 1) (cap := cap) (by simp) hcl
      have hE : Env3 G w (if cap = 1 then some ⟨b, off, none⟩ else some ⟨b, off + 1, none⟩) t (cap - 1) := ⟨hsub, by simp at hcl; omega, by omega, h.s, h.e, h.g⟩
      have HR := readNumber3_any G _ t (cap - 1) w hE
      clear hsub hE h hc0
      simp only [List.length_cons] at hcl hlen ⊢
      obtain ⟨m, hm⟩ : ∃ m, m = t.length := ⟨_, rfl⟩
      have Hm := Lib.hid hm
      rw [← hm] at HR hcl hlen hpos ⊢
      have HR' : Hid (∀ A c', A = (if cap = 1 then some ⟨b, off, none⟩ else some ⟨b, off + 1, none⟩) → c' = cap - 1 → Calls Tryd.prog 18 #[.slice A m c'] w fun e w' => e = .returned (numV (readN t)) ∧ w.grownBy w' none) := Lib.hid (by rintro A c' rfl rfl; exact HR)
      have i0 : (1 : Int) ≤ (m : Int) + 1 := by omega
      have i1 : ((m : Int) + 1) ≤ cap := by omega
      clear HR hm
      have key : ∀ (A : Option Addr) (c' : Nat), A = (if cap = 1 then some ⟨b, off, none⟩ else some ⟨b, off + 1, none⟩) → c' = cap - 1 → (cap = 1 ∧ A = some ⟨b, off, none⟩ ∧ c' = 0) ∨ (¬ cap = 1 ∧ A = some ⟨b, off + 1, none⟩) := fun A c' h1 h2 => by
        by_cases e : cap = 1
        · rw [if_pos e] at h1; exact .inl ⟨e, h1, by omega⟩
        · rw [if_neg e] at h1; exact .inr ⟨e, h1⟩
      cases hr : readN t with
      | none =>
        rw [hr] at HR'
        clear hr key
        by_cases hc1 : cap = 1
        · subst hc1
          obtain rfl : m = 0 := by omega
          have HA := Lib.hid (HR'.out _ 0 (if_pos rfl).symm rfl)
          clear HR'
          go_enter Tryd.func91, Tryd.ntmps91
          go_wp2_with fail
          refine HA.out.mono ?_
          rintro e w1 ⟨rfl, hg⟩
          have K1 := Lib.hid hg
          clear hg
          unfold numV
          go_wp2_with fail
          go_ret3
          exact MsrPost.no rfl K1.out
        · have HA := Lib.hid (HR'.out _ _ (if_neg hc1).symm rfl)
          clear HR'
          go_enter Tryd.func91, Tryd.ntmps91
          go_wp2_with fail
          refine HA.out.mono ?_
          rintro e w1 ⟨rfl, hg⟩
          have K1 := Lib.hid hg
          clear hg
          unfold numV
          go_wp2_with fail
          go_ret3
          exact MsrPost.no rfl K1.out
      | some x =>
        obtain ⟨n, k⟩ := x
        obtain ⟨_, hk1, hk2, hn64, _⟩ := readN_some hr
        have hc1 : ¬ cap = 1 := by rw [← Hm.out] at hk2; omega
        rw [hr] at HR'
        have HA := Lib.hid (HR'.out _ _ (if_neg hc1).symm rfl)
        rw [← Hm.out] at hk2
        clear HR' hr key
        simp only
        by_cases h1 : n ≤ 200000
        · have h1' : (n : Int) ≤ 200000 := by omega
          have e2 : IntKind.i64.wrap (n : Int) = n := IntWalk.i64_in _ (by omega)
          by_cases h2 : 1 + k + n + 4 ≤ m + 1
          · rw [if_pos ⟨h1, h2⟩]
            have h2' : (1 : Int) + k + n + 4 ≤ (m : Int) + 1 := by omega
            go_enter Tryd.func91, Tryd.ntmps91
            go_wp2_with fail
            refine HA.out.mono ?_
            rintro e w1 ⟨rfl, hg⟩
            have K1 := Lib.hid hg
            clear hg
            unfold numV
            go_wp2_with fail
            go_ret3
            exact MsrPost.yes (by push_cast; rfl) K1.out
          · rw [if_neg (fun h => h2 h.2)]
            have h2' : ((m : Int) + 1) < 1 + k + n + 4 := by omega
            go_enter Tryd.func91, Tryd.ntmps91
            go_wp2_with fail
            refine HA.out.mono ?_
            rintro e w1 ⟨rfl, hg⟩
            have K1 := Lib.hid hg
            obtain ⟨_, ⟨ts', ps', cs'⟩, _⟩ := HF.out.keep hg
            clear hg
            unfold numV
            go_wp2_with fail
            go_quiet (fail)
            go_wp2_with fail
            go_ret3
            exact MsrPost.no rfl (grown_drewN K1.out _)
        · rw [if_neg (fun h => h1 h.1)]
          have h1' : (200000 : Int) < n := by omega
          go_enter Tryd.func91, Tryd.ntmps91
          go_wp2_with fail
          refine HA.out.mono ?_
          rintro e w1 ⟨rfl, hg⟩
          have K1 := Lib.hid hg
          obtain ⟨⟨tg', pg', cg'⟩, _⟩ := HF.out.keep hg
          clear hg
          unfold numV
          go_wp2_with fail
          go_quiet (fail)
          go_wp2_with fail
          go_ret3
          exact MsrPost.no rfl (grown_drewN K1.out _)
    · have hne : ((c.toNat : Int) != 83) = true := by
        rw [bne_iff_ne]
        intro e
        apply h83
        rw [← UInt8.toNat_inj]
        have : c.toNat = 83 := by omega
        exact this
      unfold bV at hc0
      rw [msr_other h83]
      clear h h83
      simp only [List.length_cons]
      go_enter Tryd.func91, Tryd.ntmps91
      go_wp2_with fail
      go_quiet (fail)
      go_wp2_with fail
      go_ret3
      exact MsrPost.no rfl (grown_drewN (grown_refl _ _) _)
end Go.Proofs.YthdaibmminibhaaDoor
