/- Contracts of the reader's count and text. -/
import Derived.Test.YtnfpomjcofhppaaDoorNumR
namespace Go.Proofs.YtnfpomjcofhppaaDoor
open Go.RowKit

/-- How many things follow: at most most, each of a byte at least. -/
def readC (most : Nat) (l : List UInt8) : Option (Nat × Nat) :=
  match readN l with
  | none => none
  | some (n, k) => if n ≤ most ∧ n ≤ l.length - k then some (n, k) else none
theorem readS_count (most : Nat) (l : List UInt8) : readS most l = (readC most l).map fun x => ((l.drop x.2).take x.1, x.2 + x.1) := by
  unfold readS readC
  cases readN l with
  | none => rfl
  | some x => obtain ⟨n, k⟩ := x; simp only; split <;> rfl
theorem readC_some {most : Nat} {l : List UInt8} {n k : Nat} (h : readC most l = some (n, k)) : readN l = some (n, k) ∧ n ≤ most ∧ k + n ≤ l.length ∧ 1 ≤ k := by
  unfold readC at h
  cases hn : readN l with
  | none => rw [hn] at h; cases h
  | some x =>
    obtain ⟨m, j⟩ := x
    rw [hn] at h
    simp only at h
    have := readN_some hn
    split at h
    · cases h; exact ⟨rfl, by omega, by omega, by omega⟩
    · cases h
/-- What count answers. -/
def CountPost (g : Nat) (a : Option Addr) (len cap p : Nat) (w : World) (r : Option (Nat × Nat)) (e : Ending) (w' : World) : Prop :=
  (∀ n k, r = some (n, k) → e = .returned (.tuple #[.int .i64 n, .nilIface]) ∧ Goes g a len cap w (p + k) w') ∧ (r = none → ∃ x q, e = .returned (.tuple #[.int .i64 0, x]) ∧ Flaw x ∧ Goes g a len cap w q w')

set_option maxRecDepth 100000 in
set_option maxHeartbeats 3200000 in
theorem count_any (G g : Nat) (a : Option Addr) (l : List UInt8) (cap p most : Nat) (w : World) (hR : Rd g a l.length cap p w) (hb : BAt g w a l) (hp : p ≤ l.length) (hS : Sent G w) (hG : G ≤ g) (hm : most ≤ 9223372036854775807) :
    Calls Tryd.prog 23 #[.pointer (some ⟨g, 0, none⟩), .int .i64 most] w (CountPost g a l.length cap p w (readC most (l.drop p))) := by
  have hl := hb.1
  have HN := Lib.hid (rnumber_any G g a l cap p w hR hb hp hS hG)
  have HC := Lib.hid (fun q n w' (h : w.grownBy w' (some g)) (hr : Rd g a l.length cap q w') => cut_any G g a l.length cap q (w'.drewN n) (hr.drewN n) (hS.keep (grown_drewN h n) hG))
  have HW := Lib.hid (fun q t v w' (hr : Rd g a l.length cap q w') => wrong_any g a l.length cap q t v w' hr)
  have HS := Lib.hid hS
  have hLl := List.length_drop (l := l) (i := p)
  unfold readC
  generalize hL : l.drop p = L at *
  cases hr : readN L with
  | none =>
    have Hr := Lib.hid hr
    clear hr hL hS hR hb
    go_enter Tryd.func23, Tryd.ntmps23
    go_wp2_with fail
    refine HN.out.mono ?_
    rintro e w1 ⟨_, h2⟩
    obtain ⟨x, q, rfl, ⟨y, t9, q9, rfl⟩, K⟩ := h2 Hr.out
    clear HN
    go_wp2_with fail
    go_ret2
    exact ⟨fun _ _ h => (by cases h), fun _ => ⟨_, _, rfl, ⟨_, _, _, rfl⟩, K⟩⟩
  | some x =>
    obtain ⟨n, k⟩ := x
    obtain ⟨_, hk1, hk2, hn2, _⟩ := readN_some hr
    have Hr := Lib.hid hr
    have HLl := Lib.hid hLl
    have hpk : p + k ≤ l.length := by omega
    have hc1 : IntKind.u64.wrap (most : Int) = most := wrap_u64 (by omega) (by omega)
    have hgen : Hid (∀ e w1, NumPost g a l.length cap p w (readN L) e w1 → e = .returned (.tuple #[.int .u64 n, .nilIface]) ∧ Goes g a l.length cap w (p + k) w1) := Lib.hid fun e w1 h => h.1 n k Hr.out
    obtain ⟨q, hq⟩ : ∃ q, q = p + k := ⟨_, rfl⟩
    have Hq := Lib.hid hq
    have hql : q ≤ l.length := by omega
    rw [← hq] at hgen
    clear hr hL hS hR hb hLl hk2 hpk hn2 hq
    have HIF : Hid (n ≤ most ∧ n ≤ L.length - k ↔ n ≤ most ∧ n ≤ l.length - q) := Lib.hid (by rw [HLl.out, Hq.out]; constructor <;> (rintro ⟨u, v⟩; exact ⟨u, by omega⟩))
    simp only
    by_cases h1 : n ≤ most
    · have h1' : (n : Int) ≤ most := by omega
      have e1 : IntKind.u64.wrap ((l.length : Int) - q) = ((l.length - q : Nat) : Int) := by rw [wrap_u64 (by omega) (by omega)]; omega
      have hLq : Hid (L.length - k = l.length - q) := Lib.hid (by rw [HLl.out, Hq.out]; omega)
      by_cases h2 : n ≤ l.length - q
      · rw [if_pos (HIF.out.2 ⟨h1, h2⟩)]
        have h2' : (n : Int) ≤ ((l.length - q : Nat) : Int) := by omega
        have e2 : IntKind.i64.wrap (n : Int) = n := IntWalk.i64_in _ (by omega)
        go_enter Tryd.func23, Tryd.ntmps23
        go_wp2_with fail
        refine HN.out.mono ?_
        rintro e w1 hpost
        obtain ⟨rfl, K⟩ := hgen.out _ _ hpost
        clear hpost
        obtain ⟨c0, c1, f1, hlt⟩ := K.2.cells
        have HK := Lib.hid K
        clear K
        go_wp2_with fail
        go_quiet (fail)
        go_wp2_with fail
        go_ret2
        refine ⟨fun _ _ h => ?_, fun h => ?_⟩
        · cases h
          exact ⟨rfl, grown_drewN HK.out.1 _, Hq.out ▸ HK.out.2⟩
        · cases h
      · rw [if_neg (fun h => h2 (HIF.out.1 h).2)]
        have h2' : ((l.length - q : Nat) : Int) < (n : Int) := by omega
        go_enter Tryd.func23, Tryd.ntmps23
        go_wp2_with fail
        refine HN.out.mono ?_
        rintro e w1 hpost
        obtain ⟨rfl, K⟩ := hgen.out _ _ hpost
        clear hpost
        obtain ⟨c0, c1, f1, hlt⟩ := K.2.cells
        have HK := Lib.hid K
        clear K
        go_wp2_with fail
        go_quiet (fail)
        go_wp2_with fail
        refine (HC.out _ _ _ HK.out.1 HK.out.2).mono ?_
        rintro e w' ⟨v, m, rfl, hv, rfl⟩
        go_wp2_with fail
        go_ret2
        exact ⟨fun _ _ h => (by cases h), fun _ => ⟨_, _, rfl, hv, grown_drewN HK.out.1 _, HK.out.2⟩⟩
    · rw [if_neg (fun h => h1 h.1)]
      have h1' : (most : Int) < n := by omega
      go_enter Tryd.func23, Tryd.ntmps23
      go_wp2_with fail
      refine HN.out.mono ?_
      rintro e w1 hpost
      obtain ⟨rfl, K⟩ := hgen.out _ _ hpost
      clear hpost
      have HK := Lib.hid K
      clear K
      obtain ⟨_, _, _, _, ⟨_, t2, q2, c2⟩⟩ := HS.out.keep HK.out.1 hG
      go_wp2_with fail
      refine (HW.out _ _ _ _ HK.out.2).mono ?_
      rintro e w2 ⟨v, m, rfl, hv, rfl⟩
      go_wp2_with fail
      go_ret2
      exact ⟨fun _ _ h => (by cases h), fun _ => ⟨_, _, rfl, hv, grown_drewN HK.out.1 _, HK.out.2⟩⟩


/-- What text answers. -/
def TextPost (g : Nat) (a : Option Addr) (len cap p : Nat) (w : World) (r : Option (List UInt8 × Nat)) (e : Ending) (w' : World) : Prop :=
  (∀ t k, r = some (t, k) → e = .returned (.tuple #[.string ⟨t.toArray⟩, .nilIface]) ∧ Goes g a len cap w (p + k) w') ∧ (r = none → ∃ x q, e = .returned (.tuple #[.string ⟨#[]⟩, x]) ∧ Flaw x ∧ Goes g a len cap w q w')
theorem BAt.text {B : Nat} {w : World} {b off : Nat} {l : List UInt8} (h : BAt B w (some ⟨b, off, none⟩) l) {q n c : Nat} (hq : q + n ≤ l.length) :
    (convert 22 9 (.slice (some ⟨b, off + q, none⟩) n c)).run Tryd.prog w = .ok (.string ⟨((l.drop q).take n).toArray⟩) w := by
  have hl : ((l.drop q).take n).length = n := by rw [List.length_take, List.length_drop]; omega
  have := run_convert_bytes_back w _ _ 5 ⟨b, off + q, none⟩ c ((l.drop q).take n) Tryd.underlying22 Tryd.underlying5 Tryd.underlying9 (by
    intro j hj
    rw [hl] at hj
    rcases h.2 with h0 | ⟨b', off', e, _, hc⟩
    · rw [h0] at hq; simp at hq; omega
    · simp only [Option.some.injEq, Addr.mk.injEq] at e
      obtain ⟨rfl, rfl, _⟩ := e
      have := hc (q + j) (by omega)
      rw [add_at, Nat.add_assoc, this]
      simp [bV, List.getD, List.getElem?_eq_getElem (show q + j < l.length by omega)])
  rw [hl] at this
  exact this
theorem quiet_convert {P : Program} {ops : Array Oper} {C : World → Prop} {Q : Act → Prop} {a : Act} {o : Oper} {rest : List Oper} (hgd : o.guard = none) (T U : TypeId) (x : Operand) (ho : o.op = .convert T U x) (v : Value)
    (hv : ∀ w, C w → (convert T U (a.eval x)).run P w = .ok v w) (h : wpQuiet P ops C Q rest (a.put o.dst v)) : wpQuiet P ops C Q (o :: rest) a := by
  unfold wpQuiet
  rw [if_pos (by simp [Region.wanted, hgd])]
  refine ⟨v, fun w hw => ?_, h⟩
  have := hv w hw
  unfold Oper.quietAt execOp
  simp only [ho, Sem.run_bind, Sem.run_pure, this, Result.andThen]
  exact ⟨rfl, rfl⟩
theorem BAt.text2 {B : Nat} {w : World} {b off : Nat} {l : List UInt8} (h : BAt B w (some ⟨b, off, none⟩) l) {q n cap : Nat} (hq : q + n ≤ l.length) (hc : l.length ≤ cap) :
    (convert 22 9 (.slice (if cap = q then some ⟨b, off, none⟩ else some ⟨b, off + q, none⟩) (q + n - q) (cap - q))).run Tryd.prog w = .ok (.string ⟨((l.drop q).take n).toArray⟩) w := by
  rw [Nat.add_sub_cancel_left]
  by_cases e : cap = q
  · rw [if_pos e]
    obtain rfl : n = 0 := by omega
    exact run_convert_bytes_back w _ _ 5 ⟨b, off, none⟩ (cap - q) [] Tryd.underlying22 Tryd.underlying5 Tryd.underlying9 (fun j hj => by simp at hj)
  · rw [if_neg e]
    exact h.text hq

set_option maxRecDepth 100000 in
set_option maxHeartbeats 3200000 in
theorem text_any4 (G g : Nat) (a : Option Addr) (l : List UInt8) (cap p most : Nat) (w : World) (hR : Rd g a l.length cap p w) (hb : BAt g w a l) (hp : p ≤ l.length) (hS : Sent G w) (hG : G ≤ g) (hm : most ≤ 9223372036854775807) (hcap : l.length ≤ cap) (hcapm : cap ≤ 9223372036854775807) :
    Calls Tryd.prog 27 #[.pointer (some ⟨g, 0, none⟩), .int .i64 most] w (TextPost g a l.length cap p w (readS most (l.drop p))) := by
  have hl := hb.1
  have HN := Lib.hid (count_any G g a l cap p most w hR hb hp hS hG hm)
  have HS := Lib.hid hS
  have HB := Lib.hid hb
  have hLl := List.length_drop (l := l) (i := p)
  rw [readS_count]
  obtain ⟨L, hL⟩ : ∃ L, L = l.drop p := ⟨_, rfl⟩
  rw [← hL] at hLl HN ⊢
  cases hr : readC most L with
  | none =>
    have Hr := Lib.hid hr
    clear hr hL hS hR hb
    go_enter Tryd.func27, Tryd.ntmps27
    go_wp2_with fail
    refine HN.out.mono ?_
    rintro e w1 ⟨_, h2⟩
    obtain ⟨x, q, rfl, ⟨y, t9, q9, rfl⟩, K⟩ := h2 Hr.out
    clear HN
    go_wp2_with fail
    go_ret2
    exact ⟨fun _ _ h => (by cases h), fun _ => ⟨_, _, rfl, ⟨_, _, _, rfl⟩, K⟩⟩
  | some x =>
    obtain ⟨n, k⟩ := x
    obtain ⟨_, hn1, hn2, hk1⟩ := readC_some hr
    have Hr := Lib.hid hr
    have hpk : p + k + n ≤ l.length := by omega
    have hgen : Hid (∀ e w1, CountPost g a l.length cap p w (readC most L) e w1 → e = .returned (.tuple #[.int .i64 n, .nilIface]) ∧ Goes g a l.length cap w (p + k) w1) := Lib.hid fun e w1 h => h.1 n k Hr.out
    have HE : Hid ((L.drop k).take n = (l.drop (p + k)).take n) := Lib.hid (by rw [hL, List.drop_drop])
    obtain ⟨q, hq⟩ : ∃ q, q = p + k := ⟨_, rfl⟩
    have Hq := Lib.hid hq
    rw [← hq] at hgen HE hpk
    have hne : l ≠ [] := by intro h; rw [h] at hpk; simp at hpk; omega
    obtain ⟨b, off, rfl, hbg, _⟩ := hb.at (i := 0) (by omega)
    have hqc : q < cap ∨ n = 0 := by omega
    clear hr hL hS hR hb hLl hn2 hq hne
    have e1 : IntKind.i64.wrap ((q : Int) + n) = q + n := IntWalk.i64_in _ (by omega)
    have e2 : IntKind.i64.wrap ((q : Int) + n - n) = q := by rw [show (q : Int) + n - n = q from by omega]; exact IntWalk.i64_in _ (by omega)
    have b1 : (0 : Int) ≤ q := by omega
    have b2 : (q : Int) ≤ q + n := by omega
    have b3 : (q : Int) + n ≤ cap := by omega
    go_enter Tryd.func27, Tryd.ntmps27
    go_wp2_with fail
    refine HN.out.mono ?_
    rintro e w1 hpost
    obtain ⟨rfl, K⟩ := hgen.out _ _ hpost
    clear hpost
    obtain ⟨c0, c1, f1, hlt⟩ := K.2.cells
    have HK := Lib.hid K
    clear K
    have HB1 : BAt g (w1.setCell ⟨g, 1, none⟩ (.int .i64 (q + n))) (some ⟨b, off, none⟩) l := HB.out.keep (grown_set HK.out.1 1 _) (by simp)
    have hR2 : Hid (Rd g (some ⟨b, off, none⟩) l.length cap (q + n) (w1.setCell ⟨g, 1, none⟩ (.int .i64 (q + n)))) := Lib.hid HK.out.2.set
    have HCV := Lib.hid (fun m => BAt.text2 (w := (w1.setCell ⟨g, 1, none⟩ (.int .i64 (q + n))).drewN m) HB1 hpk hcap)
    clear HB1
    go_wp2_with fail
    refine wp_region_quiet_lit (by kernel_rfl) (by kernel_rfl) ?_
    repeat (go_big_quiet_step (fail))
    refine quiet_convert (by rfl) _ _ _ (by rfl) (.string ⟨((l.drop q).take n).toArray⟩) (fun w hw => ?_) ?_
    · obtain ⟨m, rfl⟩ := hw
      exact HCV.out m
    go_simp
    repeat (go_big_quiet_step (fail))
    refine wpQuiet_nil ?_
    intro nq
    rename_i K hK
    refine hK _ _ ?_
    generalize Value.slice (if cap = q then (some (⟨b, off, none⟩ : Addr)) else some ⟨b, off + q, none⟩) n (cap - q) = junk
    go_wp2_with fail
    go_ret2
    refine ⟨fun _ _ h => ?_, fun h => (by cases h)⟩
    cases h
    have hpos : p + (k + n) = q + n := by rw [Hq.out]; omega
    refine ⟨congrArg (fun t : List UInt8 => Ending.returned (.tuple #[.string ⟨t.toArray⟩, .nilIface])) HE.out.symm, grown_drewN (grown_set HK.out.1 _ _) _, ?_⟩
    show Rd g _ _ _ (p + (k + n)) _
    rw [hpos]
    exact hR2.out
end Go.Proofs.YtnfpomjcofhppaaDoor
