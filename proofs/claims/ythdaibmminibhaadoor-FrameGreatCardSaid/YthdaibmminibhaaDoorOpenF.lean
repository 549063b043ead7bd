/- Contracts of frame's open: bytes.Equal, bytes.Clone. -/
import Derived.Test.YthdaibmminibhaaDoorCutF
import Derived.Test.YthdaibmminibhaaDoorShelf
namespace Go.Proofs.YthdaibmminibhaaDoor
open Go.RowKit

def ints (l : List UInt8) : List Int := l.map fun c => (c.toNat : Int)
theorem ints_len (l : List UInt8) : (ints l).length = l.length := by unfold ints; rw [List.length_map]
theorem ints_bytes (l : List UInt8) : Lib.bytesOf (ints l) = l := by
  unfold Lib.bytesOf ints
  rw [List.map_map]
  conv => rhs; rw [← List.map_id l]
  apply List.map_congr_left
  intro c _
  simp
theorem ints_get (l : List UInt8) (i : Nat) : Value.int .u8 ((ints l).getD i 0) = bV (l.getD i 0) := by
  unfold ints bV
  by_cases h : i < l.length
  · simp [List.getD, h]
  · simp [List.getD, List.getElem?_eq_none (Nat.not_lt.1 h)]
theorem ints_cells (l : List UInt8) : (ints l).map (Value.int .u8) = l.map bV := by
  unfold ints
  rw [List.map_map]
  rfl
theorem BAt.cell {B : Nat} {w : World} {ad : Addr} {l : List UInt8} (h : BAt B w (some ad) l) (i : Nat) (hi : i < l.length) : w.cell? (ad.add i) = some (.int .u8 ((ints l).getD i 0)) := by
  obtain ⟨b, off, e, _⟩ := h.at hi
  rcases h.2 with rfl | ⟨b', off', e', _, hc⟩
  · simp at hi
  · cases e'
    rw [add_at, hc i hi, ints_get]
theorem clone_any (ad : Addr) (cap : Nat) (l : List UInt8) (w : World) (hb : BAt w.heap.size w (some ad) l) (hl : l.length ≤ 1000000) :
    Calls Tryd.prog 93 #[.slice (some ad) l.length cap] w (Adds w.heap.size w l) := by
  refine (Tryd.bytes_Clone_at ad l.length cap (ints l) w (ints_len l) (by omega) (fun i hi => hb.cell i hi)).mono ?_
  rintro e w1 ⟨v, rfl, ho, _, hB⟩
  rw [ints_cells] at ho
  exact ⟨v, rfl, ho, hB⟩
theorem BAt.bytesIn {B : Nat} {w : World} {a : Option Addr} {l : List UInt8} (h : BAt B w a l) : Lib.BytesIn w a l.length (ints l) := by
  intro hn
  rcases h.2 with rfl | ⟨b, off, e, _, hc⟩
  · simp at hn
  · exact ⟨b, off, e, fun i hi => by rw [ints_get]; exact hc i hi⟩
theorem equal_any (a1 a2 : Option Addr) (c1 c2 : Nat) (l1 l2 : List UInt8) (w : World) (B1 B2 : Nat) (h1 : BAt B1 w a1 l1) (h2 : BAt B2 w a2 l2) :
    Calls Tryd.prog 92 #[.slice a1 l1.length c1, .slice a2 l2.length c2] w fun e w' => e = .returned (.bool (l1 == l2)) ∧ w' = w := by
  have h := Tryd.bytes_Equal_all a1 a2 l1.length c1 l2.length c2 (ints l1) (ints l2) w (ints_len l1) (ints_len l2) h1.bytesIn h2.bytesIn
  rw [ints_bytes, ints_bytes] at h
  exact h
theorem OwnB.lower {B B' : Nat} {w : World} {v : Value} {l : List UInt8} (h : OwnB B w v l) (hB : B' ≤ B) : OwnB B' w v l := by
  obtain ⟨a, b⟩ := h
  refine ⟨a, ?_⟩
  rcases b with b | ⟨g, c, cur, e, hg, r⟩
  · exact .inl b
  · exact .inr ⟨g, c, cur, e, Nat.le_trans hB hg, r⟩
theorem below_dr {B : Nat} {w w' : World} (h : Below B w w') (n : Nat) : Below B w (w'.drewN n) := by
  induction n with
  | zero => exact h
  | succ n ih => exact ih.drew
theorem box3_new (w : World) (u v x : Value) (T : TypeId) : (w.alloc (.cells #[u, v, x] T)).cell? ⟨w.heap.size, 0, none⟩ = some u ∧ (w.alloc (.cells #[u, v, x] T)).cell? ⟨w.heap.size, 1, none⟩ = some v ∧ (w.alloc (.cells #[u, v, x] T)).cell? ⟨w.heap.size, 2, none⟩ = some x :=
  ⟨cell_of_row _ _ 0 _ _ _ (row3_new w u v x T), cell_of_row _ _ 1 _ _ _ (row3_new w u v x T), cell_of_row _ _ 2 _ _ _ (row3_new w u v x T)⟩
theorem box3_keep {w w' : World} {b : Nat} {u v x : Value} (h : w.cell? ⟨b, 0, none⟩ = some u ∧ w.cell? ⟨b, 1, none⟩ = some v ∧ w.cell? ⟨b, 2, none⟩ = some x) (hb : Below w.heap.size w w') : w'.cell? ⟨b, 0, none⟩ = some u ∧ w'.cell? ⟨b, 1, none⟩ = some v ∧ w'.cell? ⟨b, 2, none⟩ = some x :=
  ⟨(grown_below hb none).cell h.1 (by simp), (grown_below hb none).cell h.2.1 (by simp), (grown_below hb none).cell h.2.2 (by simp)⟩
set_option maxRecDepth 100000 in
set_option maxHeartbeats 3200000 in
theorem open_yes (b off cap f c2 : Nat) (q : Option Addr) (A S : List UInt8) (w : World) (h1 : BAt w.heap.size w (some ⟨b, off, none⟩) A) (h2 : BAt w.heap.size w q S) (ht : Turns w) (hA : A.length ≤ 200020) (hS : S.length = 4)
    (hE : S = Crc.le4 (Crc.crc A)) (hf : f ≤ A.length) (hfc : f < cap) (hc : A.length ≤ cap) (_ : cap ≤ 9223372036854775807) :
    Calls Tryd.prog 72 #[.agg #[.slice (some ⟨b, off, none⟩) A.length cap, .int .i64 f, .slice q 4 c2]] w fun e w' => ∃ v, e = .returned (.tuple #[v, .nilIface]) ∧ OwnB w.heap.size w' v (A.drop f) ∧ Below w.heap.size w w' := by
  have HT : Hid (∀ W, Below w.heap.size w W → Calls Tryd.prog 89 #[.slice (some ⟨b, off, none⟩) A.length cap] W fun e w' => ∃ p c, e = .returned (.slice p 4 c) ∧ BAt w'.heap.size w' p S ∧ Below W.heap.size W w') := Lib.hid (fun W hg => by
    refine (tail_any (some ⟨b, off, none⟩) cap A W ((h1.keep (grown_below hg none) (by simp)).mono hg.size) (ht.keep (grown_below hg none))).mono ?_
    rintro e w' ⟨v, rfl, ho, hb⟩
    rw [← hE] at ho
    obtain ⟨p, c, rfl, hp, _⟩ := ho.read2 (by omega)
    rw [hS]
    exact ⟨p, c, rfl, hp, hb⟩)
  have HQ := Lib.hid (fun W (hg : Below w.heap.size w W) (p : Option Addr) (c : Nat) (hp : BAt W.heap.size W p S) => equal_any q p c2 c S S W _ _ (h2.keep (grown_below hg none) (by simp)) hp)
  have hSS : (S == S) = true := beq_self_eq_true S
  rw [hSS, hS] at HQ
  have HC := Lib.hid (fun W (hg : Below w.heap.size w W) (ad : Addr) (c' : Nat) (hp : BAt W.heap.size W (some ad) (A.drop f)) => clone_any ad c' (A.drop f) W hp (by rw [List.length_drop]; omega))
  have hs1 := h1.sub (q := f) (cap := cap) (by omega) hc
  rw [if_neg (show ¬ cap = f by omega)] at hs1
  have HD := Lib.hid hs1
  clear hs1 h1
  have hl : (A.drop f).length = A.length - f := List.length_drop
  generalize hm : A.length = m at *
  obtain ⟨c0, c1, c2'⟩ := box3_new w (.slice (some ⟨b, off, none⟩) m cap) (.int .i64 f) (.slice q 4 c2) 127
  have hbox := Lib.hid (And.intro c0 (And.intro c1 c2'))
  have KB := Lib.hid ((Below.refl w.heap.size w).alloc (Nat.le_refl _) (.cells #[.slice (some ⟨b, off, none⟩) m cap, .int .i64 f, .slice q 4 c2] 127))
  rw [hl] at HC
  clear h2 ht hE hl hSS hm
  have j0 : (f : Int) ≤ m := by omega
  have j1 : (m : Int) ≤ cap := by omega
  have j2 : ¬ cap = f := by omega
  have j3 : ¬ (cap : Int) = f := by omega
  go_enter Tryd.func72, Tryd.ntmps72
  go_wp2_with fail
  go_region_with (first | (go_at_call 89; (with_reducible refine (HT.out _ (by first | exact KB.out | exact KB.out.drew)).mono ?_); rintro e w3 ⟨p3, c3, rfl, hp3, hb3⟩; have c5 := box3_keep hbox.out ((Below.refl _ _).drew.trans hb3); obtain ⟨e0, e1, e2⟩ := c5; have K3 := Lib.hid (KB.out.trans (((Below.refl _ _).drew.trans hb3).mono (by simp))); have P3 := Lib.hid hp3; clear hp3 hb3) | (go_at_call 92; (with_reducible refine (HQ.out _ K3.out _ _ P3.out).mono ?_); rintro e w4 ⟨rfl, rfl⟩))
  all_goals
    obtain ⟨g0, g1, g2⟩ := And.intro e0 (And.intro e1 e2)
    go_wp2_with fail
    refine (HC.out _ K3.out _ _ ((HD.out.keep (grown_below K3.out none) (by simp)).mono K3.out.size)).mono ?_
    rintro e w5 ⟨v, rfl, ho, hb⟩
    have O5 := Lib.hid ho
    have K5 := Lib.hid (K3.out.trans (hb.mono K3.out.size))
    clear ho hb
    go_wp2_with fail
    go_ret2
    exact ⟨_, rfl, O5.out.lower K3.out.size, K5.out⟩
set_option maxRecDepth 100000 in
set_option maxHeartbeats 3200000 in
theorem open_no (b off cap f c2 : Nat) (q : Option Addr) (A S : List UInt8) (w : World) (h1 : BAt w.heap.size w (some ⟨b, off, none⟩) A) (h2 : BAt w.heap.size w q S) (ht : Turns w) (hA : A.length ≤ 200020) (hS : S.length = 4)
    (hE : S ≠ Crc.le4 (Crc.crc A)) (hs : ∃ p, w.cell? ⟨6, 0, none⟩ = some (.iface 223 (.pointer (some p)))) (hf : f ≤ A.length) (hfc : f < cap) (hc : A.length ≤ cap) (_ : cap ≤ 9223372036854775807) :
    Calls Tryd.prog 72 #[.agg #[.slice (some ⟨b, off, none⟩) A.length cap, .int .i64 f, .slice q 4 c2]] w fun e w' => ∃ p, e = .returned (.tuple #[.slice none 0 0, .iface 223 (.pointer (some p))]) ∧ Below w.heap.size w w' := by
  obtain ⟨ps, cs⟩ := hs
  obtain ⟨U, hU⟩ : ∃ U, U = Crc.le4 (Crc.crc A) := ⟨_, rfl⟩
  have hUl : U.length = 4 := by rw [hU]; rfl
  have HT : Hid (∀ W, Below w.heap.size w W → Calls Tryd.prog 89 #[.slice (some ⟨b, off, none⟩) A.length cap] W fun e w' => ∃ p c, e = .returned (.slice p 4 c) ∧ BAt w'.heap.size w' p U ∧ Below W.heap.size W w') := Lib.hid (fun W hg => by
    refine (tail_any (some ⟨b, off, none⟩) cap A W ((h1.keep (grown_below hg none) (by simp)).mono hg.size) (ht.keep (grown_below hg none))).mono ?_
    rintro e w' ⟨v, rfl, ho, hb⟩
    rw [← hU] at ho
    obtain ⟨p, c, rfl, hp, _⟩ := ho.read2 (by omega)
    rw [hUl]
    exact ⟨p, c, rfl, hp, hb⟩)
  have HQ := Lib.hid (fun W (hg : Below w.heap.size w W) (p : Option Addr) (c : Nat) (hp : BAt W.heap.size W p U) => equal_any q p c2 c S U W _ _ (h2.keep (grown_below hg none) (by simp)) hp)
  have hSS : (S == U) = false := beq_eq_false_iff_ne.2 (by rw [hU]; exact hE)
  rw [hSS, hS, hUl] at HQ
  have HC := Lib.hid (fun W (hg : Below w.heap.size w W) (ad : Addr) (c' : Nat) (hp : BAt W.heap.size W (some ad) (A.drop f)) => clone_any ad c' (A.drop f) W hp (by rw [List.length_drop]; omega))
  have hs1 := h1.sub (q := f) (cap := cap) (by omega) hc
  rw [if_neg (show ¬ cap = f by omega)] at hs1
  have HD := Lib.hid hs1
  clear hs1 h1
  have hl : (A.drop f).length = A.length - f := List.length_drop
  generalize hm : A.length = m at *
  obtain ⟨c0, c1, c2'⟩ := box3_new w (.slice (some ⟨b, off, none⟩) m cap) (.int .i64 f) (.slice q 4 c2) 127
  have hbox := Lib.hid (And.intro c0 (And.intro c1 c2'))
  have KB := Lib.hid ((Below.refl w.heap.size w).alloc (Nat.le_refl _) (.cells #[.slice (some ⟨b, off, none⟩) m cap, .int .i64 f, .slice q 4 c2] 127))
  rw [hl] at HC
  have HCS := Lib.hid cs
  clear h2 ht hE hl hSS hm hU cs
  have j0 : (f : Int) ≤ m := by omega
  have j1 : (m : Int) ≤ cap := by omega
  have j2 : ¬ cap = f := by omega
  have j3 : ¬ (cap : Int) = f := by omega
  go_enter Tryd.func72, Tryd.ntmps72
  go_wp2_with fail
  go_region_with (first | (go_at_call 89; (with_reducible refine (HT.out _ (by first | exact KB.out | exact KB.out.drew)).mono ?_); rintro e w3 ⟨p3, c3, rfl, hp3, hb3⟩; have c5 := box3_keep hbox.out ((Below.refl _ _).drew.trans hb3); obtain ⟨e0, e1, e2⟩ := c5; have K3 := Lib.hid (KB.out.trans (((Below.refl _ _).drew.trans hb3).mono (by simp))); have P3 := Lib.hid hp3; clear hp3 hb3) | (go_at_call 92; (with_reducible refine (HQ.out _ K3.out _ _ P3.out).mono ?_); rintro e w4 ⟨rfl, rfl⟩))
  all_goals
    obtain ⟨g0, g1, g2⟩ := And.intro e0 (And.intro e1 e2)
    have cs' := (grown_below K3.out none).cell HCS.out (by simp)
    go_wp2_with fail
    go_quiet (fail)
    go_wp2_with fail
    go_ret2
    exact ⟨ps, rfl, below_dr K3.out _⟩
end Go.Proofs.YthdaibmminibhaaDoor
