/- Contracts of codec's ReadNumber, ReadValue, ReadRow, ReadRows, ReadString. -/
import Derived.Test.YtnfpomjcofhppaaDoorReadV5
namespace Go.Proofs.YtnfpomjcofhppaaDoor
open Go.RowKit

/-- What a call of the reading side asks of the world: the bytes, the program's errors. -/
structure Env (G : Nat) (w : World) (a : Option Addr) (l : List UInt8) (cap : Nat) : Prop where
  b : BAt w.heap.size w a l
  c : l.length ≤ cap
  m : cap ≤ 9223372036854775807
  s : Sent G w
  e : ErrT G w
  g : G ≤ w.heap.size
theorem BAt.mono {B B' : Nat} {w : World} {a : Option Addr} {l : List UInt8} (h : BAt B w a l) (hB : B ≤ B') : BAt B' w a l :=
  ⟨h.1, h.2.imp id fun ⟨b, off, e, hlt, hc⟩ => ⟨b, off, e, by omega, hc⟩⟩
theorem Sent.none {G : Nat} {w w' : World} (h : Sent G w) (hg : w.grownBy w' none) : Sent G w' := h.keep (g := G) (grown_none hg _) (Nat.le_refl _)
theorem ErrT.none {G : Nat} {w w' : World} (h : ErrT G w) (hg : w.grownBy w' none) : ErrT G w' := h.keep (g := G) (grown_none hg _) (Nat.le_refl _)
theorem Env.keep {G : Nat} {w w' : World} {a : Option Addr} {l : List UInt8} {cap : Nat} (h : Env G w a l cap) (hg : w.grownBy w' none) : Env G w' a l cap :=
  ⟨(h.b.keep hg (by simp)).mono hg.size, h.c, h.m, h.s.none hg, h.e.none hg, Nat.le_trans h.g hg.size⟩
theorem below_grown {w w' : World} (h : w.grownBy w' none) : Below w.heap.size w w' := ⟨h.os, h.tape, h.output, h.size, fun k hk => h.block k hk (by simp)⟩

def numV : Option (Nat × Nat) → Value
  | some (n, k) => .tuple #[.int .u64 n, .int .i64 k, .int .i64 0]
  | none => .tuple #[.int .u64 0, .int .i64 0, .int .i64 2]
def strV : Option (List UInt8 × Nat) → Value
  | some (t, k) => .tuple #[.string ⟨t.toArray⟩, .int .i64 k, .int .i64 0]
  | none => .tuple #[.string ⟨#[]⟩, .int .i64 0, .int .i64 2]
def valV : Option (Vl × Nat) → Value
  | some (v, k) => .tuple #[.agg #[.int .i64 v.k, .int .i64 v.n, .string v.s], .int .i64 k, .int .i64 0]
  | none => .tuple #[.agg #[.int .i64 0, .int .i64 0, .string ⟨#[]⟩], .int .i64 0, .int .i64 2]

set_option maxHeartbeats 1600000 in
theorem readNumber_any (G : Nat) (a : Option Addr) (l : List UInt8) (cap : Nat) (w : World) (h : Env G w a l cap) :
    Calls Tryd.prog 7 #[.slice a l.length cap] w fun e w' => e = .returned (numV (readN l)) ∧ w.grownBy w' none := by
  have HN : ∀ W, w.grownBy W none → Rd w.heap.size a l.length cap 0 W → Calls Tryd.prog 18 #[.pointer (some ⟨w.heap.size, 0, none⟩)] W (NumPost w.heap.size a l.length cap 0 W (readN l)) := fun W hg hr =>
    rnumber_any G w.heap.size a l cap 0 W hr (h.b.keep hg (by simp)) (Nat.zero_le _) (h.s.none hg) h.g
  cases hr : readN l with
  | some x =>
    obtain ⟨n, k⟩ := x
    rw [hr] at HN
    have HC := Lib.hid (readN_yes a l.length cap k w (fun _ V => V = .int .u64 n) (Lib.hid fun W hg hR => (HN W hg hR).mono fun e w' hp => by
      obtain ⟨rfl, K⟩ := hp.1 n k rfl
      rw [Nat.zero_add] at K
      exact ⟨_, rfl, rfl, K⟩))
    clear h HN hr
    go_enter Tryd.func7, Tryd.ntmps7
    go_wp2_with fail
    refine HC.out.mono ?_
    rintro e w' ⟨_, w2, rfl, rfl, _, hg⟩
    have HG := Lib.hid hg
    clear hg
    go_wp2_with fail
    go_ret3
    exact ⟨rfl, HG.out⟩
  | none =>
    rw [hr] at HN
    have HC := Lib.hid (readN_no G a l.length cap w h.e h.g (Lib.hid fun W hg hR => (HN W hg hR).mono fun e w' hp => by
      obtain ⟨x, q, rfl, hf, K⟩ := hp.2 rfl
      exact ⟨_, _, _, rfl, hf, K⟩))
    clear h HN hr
    go_enter Tryd.func7, Tryd.ntmps7
    go_wp2_with fail
    refine HC.out.mono ?_
    rintro e w' ⟨rfl, hg⟩
    have HG := Lib.hid hg
    clear hg
    go_wp2_with fail
    go_ret3
    exact ⟨rfl, HG.out⟩

set_option maxHeartbeats 1600000 in
theorem readValue_any (G : Nat) (a : Option Addr) (l : List UInt8) (cap : Nat) (w : World) (h : Env G w a l cap) :
    Calls Tryd.prog 6 #[.slice a l.length cap] w fun e w' => e = .returned (valV (readV l)) ∧ w.grownBy w' none := by
  have h1 := h.keep (World.grownBy_alloc w (.cells #[.int .i64 0, .int .i64 0, .string ⟨#[]⟩] 30) none)
  have HN : ∀ w W, Env G w a l cap → w.grownBy W none → Rd (w.heap.size + 1) a l.length cap 0 W → Calls Tryd.prog 16 #[.pointer (some ⟨w.heap.size + 1, 0, none⟩)] W (ValPost (w.heap.size + 1) a l.length cap 0 W (readV l)) := fun w W h hg hr =>
    value_any4 G (w.heap.size + 1) a l cap 0 W hr ((h.b.keep hg (by simp)).mono (by omega)) (Nat.zero_le _) (h.s.none hg) (by have := h.g; omega) h.c h.m
  have HB := Lib.hid (Box3.new w (.int .i64 0) (.int .i64 0) (.string ⟨#[]⟩) 30)
  have HG0 := Lib.hid (World.grownBy_alloc w (.cells #[.int .i64 0, .int .i64 0, .string ⟨#[]⟩] 30) none)
  cases hr : readV l with
  | some x =>
    obtain ⟨v, k⟩ := x
    rw [hr] at HN
    have HC := Lib.hid (readV_yes a l.length cap k v (w.alloc (.cells #[.int .i64 0, .int .i64 0, .string ⟨#[]⟩] 30)) (Lib.hid fun W hg hR => (HN _ W h1 hg hR).mono fun e w' hp => by
      obtain ⟨rfl, K⟩ := hp.1 v k rfl
      rw [Nat.zero_add] at K
      exact ⟨rfl, K⟩))
    clear h h1 HN hr
    go_enter Tryd.func6, Tryd.ntmps6
    go_wp2_with fail
    refine HC.out.mono ?_
    rintro e w1 ⟨rfl, hg⟩
    have HG := Lib.hid (HG0.out.trans hg)
    obtain ⟨c0, c1, c2, f0, f1, f2⟩ := HB.out.keep (grown_none hg (some (w.heap.size + 1))) (by omega)
    clear hg
    go_wp2_with fail
    refine bodyPost_ret (v := valV (some (v, k))) (by simp [results, Tryd.results6, go_sem, c0, c1, c2, valV]) rfl ⟨rfl, ?_⟩
    exact grown_new (grown_new (grown_new HG.out (Nat.le_refl _) _ _) (Nat.le_refl _) _ _) (Nat.le_refl _) _ _
  | none =>
    rw [hr] at HN
    have HC := Lib.hid (readV_no G a l.length cap (w.alloc (.cells #[.int .i64 0, .int .i64 0, .string ⟨#[]⟩] 30)) h1.e h1.g (Lib.hid fun W hg hR => (HN _ W h1 hg hR).mono fun e w' hp => by
      obtain ⟨vk, vn, vs, x, q, rfl, hf, K⟩ := hp.2 rfl
      exact ⟨_, _, _, _, _, rfl, hf, K⟩))
    clear h h1 HN hr
    go_enter Tryd.func6, Tryd.ntmps6
    go_wp2_with fail
    refine HC.out.mono ?_
    rintro e w1 ⟨rfl, hg⟩
    have HG := Lib.hid (HG0.out.trans hg)
    obtain ⟨c0, c1, c2, f0, f1, f2⟩ := HB.out.keep (grown_none hg (some (w.heap.size + 1))) (by omega)
    clear hg
    go_wp2_with fail
    refine bodyPost_ret (v := valV none) (by simp [results, Tryd.results6, go_sem, c0, c1, c2, valV]) rfl ⟨rfl, ?_⟩
    exact grown_new (grown_new (grown_new HG.out (Nat.le_refl _) _ _) (Nat.le_refl _) _ _) (Nat.le_refl _) _ _
theorem OwnV.low {B : Nat} {w : World} {v : Value} {l : List Vl} (h : OwnV B w v l) (hl : l.length ≤ 255) (hf : ∀ x ∈ l, x.fits) : ∃ (a : Option Addr) (cap : Nat), v = .slice a l.length cap ∧ RowLow w.heap.size w a l := by
  obtain ⟨a, cap, e, h1, h2, h3⟩ := h.row (out := .slice none 0 0) hl hf (by simp [Value.ownBlock])
  refine ⟨a, cap, e, by omega, hf, h3.imp id fun ⟨b, off, e1, _, hlt, _, hc⟩ => ⟨b, off, e1, hlt, hc⟩⟩
theorem RowLow.next {w w' : World} {a : Option Addr} {l : List Vl} (h : RowLow w.heap.size w a l) (hg : w.grownBy w' none) : RowLow w'.heap.size w' a l := (h.keep (below_grown hg)).mono hg.size
theorem RowsLow.next {w w' : World} {a : Option Addr} {l : List Rw} (h : RowsLow w.heap.size w a l) (hg : w.grownBy w' none) : RowsLow w'.heap.size w' a l := by
  obtain ⟨h1, h2, h3⟩ := h.keep (below_grown hg)
  exact ⟨h1, fun r hr => (h2 r hr).mono hg.size, h3.imp id fun ⟨b, off, e, hlt, hc⟩ => ⟨b, off, e, Nat.lt_of_lt_of_le hlt hg.size, hc⟩⟩
/-- A row that is answered. -/
def RowOut (r : Option (List Vl × Nat)) (e : Ending) (w' : World) : Prop :=
  (∀ vs k, r = some (vs, k) → ∃ a cap, e = .returned (.tuple #[.slice a vs.length cap, .int .i64 k, .int .i64 0]) ∧ RowLow w'.heap.size w' a vs) ∧ (r = none → e = .returned (.tuple #[.slice none 0 0, .int .i64 0, .int .i64 2]))
def RowsOut (r : Option (List (List Vl) × Nat)) (e : Ending) (w' : World) : Prop :=
  (∀ ls k, r = some (ls, k) → ∃ a cap rws, e = .returned (.tuple #[.slice a rws.length cap, .int .i64 k, .int .i64 0]) ∧ rws.map Rw.l = ls ∧ RowsLow w'.heap.size w' a rws) ∧ (r = none → e = .returned (.tuple #[.slice none 0 0, .int .i64 0, .int .i64 2]))

set_option maxHeartbeats 1600000 in
theorem readRows_any (G : Nat) (a : Option Addr) (l : List UInt8) (cap : Nat) (w : World) (h : Env G w a l cap) (hlen : l.length ≤ 100000000) :
    Calls Tryd.prog 5 #[.slice a l.length cap] w fun e w' => RowsOut (readL l) e w' ∧ w.grownBy w' none := by
  have HN : ∀ W, w.grownBy W none → Rd w.heap.size a l.length cap 0 W → Calls Tryd.prog 14 #[.pointer (some ⟨w.heap.size, 0, none⟩)] W (RowsPost w.heap.size a l.length cap 0 W (readL l)) := fun W hg hr =>
    rrows_any G w.heap.size a l cap 0 W hr (h.b.keep hg (by simp)) (Nat.zero_le _) (h.s.none hg) h.g h.c h.m hlen
  cases hr : readL l with
  | some x =>
    obtain ⟨ls, k⟩ := x
    rw [hr] at HN
    obtain ⟨_, hll, _, _, _⟩ := readL_some hr
    have HC := Lib.hid (readL_yes a l.length cap k w (fun w2 V => ∃ a' cap' rws, V = .slice a' rws.length cap' ∧ rws.map Rw.l = ls ∧ RowsLow w2.heap.size w2 a' rws) (Lib.hid fun W hg hR => (HN W hg hR).mono fun e w' hp => by
      obtain ⟨V, rws, rfl, hls, ho, K⟩ := hp.1 ls k rfl
      rw [Nat.zero_add] at K
      have hlr : rws.length ≤ 9223372036854775807 := by have := congrArg List.length hls; simp at this; omega
      obtain ⟨a', cap', e, hlow⟩ := ho.low hlr
      exact ⟨V, rfl, ⟨a', cap', rws, e, hls, hlow⟩, K⟩))
    clear h HN hr hll
    go_enter Tryd.func5, Tryd.ntmps5
    go_wp2_with fail
    refine HC.out.mono ?_
    rintro e w' ⟨_, w2, rfl, ⟨a', cap', rws, rfl, hls, hl⟩, hg2, hg⟩
    have HG := Lib.hid hg
    have HL := Lib.hid (hl.next hg2)
    have HLS := Lib.hid hls
    clear hg hg2 hl hls
    go_wp2_with fail
    go_ret3
    exact ⟨⟨fun _ _ h => (by cases h; exact ⟨_, _, rws, rfl, HLS.out, HL.out⟩), fun h => (by cases h)⟩, HG.out⟩
  | none =>
    rw [hr] at HN
    have HC := Lib.hid (readL_no G a l.length cap w h.e h.g (Lib.hid fun W hg hR => (HN W hg hR).mono fun e w' hp => by
      obtain ⟨x, q, rfl, hf, K⟩ := hp.2 rfl
      exact ⟨_, _, _, rfl, hf, K⟩))
    clear h HN hr
    go_enter Tryd.func5, Tryd.ntmps5
    go_wp2_with fail
    refine HC.out.mono ?_
    rintro e w' ⟨rfl, hg⟩
    have HG := Lib.hid hg
    clear hg
    go_wp2_with fail
    go_ret3
    exact ⟨⟨fun _ _ h => (by cases h), fun _ => rfl⟩, HG.out⟩
end Go.Proofs.YtnfpomjcofhppaaDoor
