/- Contracts of toInt and of the reader's value. -/
import Derived.Test.YtnfpomjcofhppaaDoorTxtR
namespace Go.Proofs.YtnfpomjcofhppaaDoor
open Go.RowKit

theorem grown_new {w w' : World} {row : Option Nat} (h : w.grownBy w' row) {B : Nat} (hB : w.heap.size ≤ B) (i : Nat) (v : Value) : w.grownBy (w'.setCell ⟨B, i, none⟩ v) row := by
  refine ⟨h.os, h.tape, h.output, ?_, fun k hk hne => ?_⟩
  · have := h.size; simpa using this
  · rw [Below.heap_setCell _ _ _ _ (by show k ≠ B; omega)]
    exact h.block k hk hne
theorem Rd.other {g : Nat} {a : Option Addr} {len cap p : Nat} {w : World} (h : Rd g a len cap p w) {B : Nat} (hB : B ≠ g) (i : Nat) (v : Value) : Rd g a len cap p (w.setCell ⟨B, i, none⟩ v) := by
  unfold Rd
  rw [Below.heap_setCell _ _ _ _ (by show g ≠ B; omega)]
  exact h
theorem Goes.box {g : Nat} {a : Option Addr} {len cap p : Nat} {w w' : World} (h : Goes g a len cap w p w') {B : Nat} (hB : w.heap.size ≤ B) (hg : B ≠ g) (i : Nat) (v : Value) : Goes g a len cap w p (w'.setCell ⟨B, i, none⟩ v) :=
  ⟨grown_new h.1 hB i v, h.2.other hg i v⟩
theorem Rd.alloc {g : Nat} {a : Option Addr} {len cap p : Nat} {w : World} (h : Rd g a len cap p w) (o : Obj) : Rd g a len cap p (w.alloc o) := by
  unfold Rd
  rw [Below.heap_alloc _ _ _ h.cells.2.2.2]
  exact h
theorem Goes.first {g : Nat} {a : Option Addr} {len cap p : Nat} {w w' : World} {o : Obj} (h : Goes g a len cap (w.alloc o) p w') : Goes g a len cap w p w' :=
  ⟨(World.grownBy_alloc w o (some g)).trans h.1, h.2⟩
/-- The box of three cells at B. -/
def Box3 (B : Nat) (w : World) (v0 v1 v2 : Value) : Prop := w.cell? ⟨B, 0, none⟩ = some v0 ∧ w.cell? ⟨B, 1, none⟩ = some v1 ∧ w.cell? ⟨B, 2, none⟩ = some v2 ∧ w.frozen? ⟨B, 0, none⟩ = false ∧ w.frozen? ⟨B, 1, none⟩ = false ∧ w.frozen? ⟨B, 2, none⟩ = false
theorem Box3.new (w : World) (v0 v1 v2 : Value) (T : TypeId) : Box3 w.heap.size (w.alloc (.cells #[v0, v1, v2] T)) v0 v1 v2 := by
  have e := heap_alloc_new w (.cells #[v0, v1, v2] T)
  exact ⟨cell_of_row _ _ 0 _ _ _ e, cell_of_row _ _ 1 _ _ _ e, cell_of_row _ _ 2 _ _ _ e, by (unfold World.frozen?; rw [e]; rfl), by (unfold World.frozen?; rw [e]; rfl), by (unfold World.frozen?; rw [e]; rfl)⟩
theorem Box3.keep {B g : Nat} {w w' : World} {v0 v1 v2 : Value} (h : Box3 B w v0 v1 v2) (hg : w.grownBy w' (some g)) (hB : B ≠ g) : Box3 B w' v0 v1 v2 := by
  obtain ⟨c0, c1, c2, f0, f1, f2⟩ := h
  have hlt := block_lt_of_cell c0
  exact ⟨hg.cell c0 (by simpa using hB), hg.cell c1 (by simpa using hB), hg.cell c2 (by simpa using hB), (hg.frozen_far ⟨B, 0, none⟩ hlt (by simpa using hB)).trans f0, (hg.frozen_far ⟨B, 1, none⟩ hlt (by simpa using hB)).trans f1, (hg.frozen_far ⟨B, 2, none⟩ hlt (by simpa using hB)).trans f2⟩

set_option maxHeartbeats 800000 in
theorem toInt_any (n : Nat) (w : World) (hn : n < 18446744073709551616) :
    Calls Tryd.prog 26 #[.int .u64 n] w fun e w' => e = .returned (.int .i64 (zag n)) ∧ w = w' := by
  have h0 : IntKind.i64.wrap ((n : Int) / 2) = (n : Int) / 2 := IntWalk.i64_in _ (by omega)
  have hx := not_i64 ((n : Int) / 2) (by omega) (by omega)
  by_cases h : n % 2 = 1
  · have e1 : ((n : Int) % 2 == 1) = true := beq_iff_eq.2 (by omega)
    have hz : Hid (zag n = -((n : Int) / 2) - 1) := Lib.hid (by unfold zag; rw [if_pos h]; omega)
    clear h
    go_enter Tryd.func26, Tryd.ntmps26
    go_wp2_with fail
    go_ret
    exact ⟨ret_int hz.out.symm, rfl⟩
  · have e1 : ((n : Int) % 2 == 1) = false := beq_eq_false_iff_ne.2 (by omega)
    have hz : Hid (zag n = (n : Int) / 2) := Lib.hid (by unfold zag; rw [if_neg h]; omega)
    clear h
    go_enter Tryd.func26, Tryd.ntmps26
    go_wp2_with fail
    go_ret
    exact ⟨ret_int hz.out.symm, rfl⟩

/-- What value answers. -/
def ValPost (g : Nat) (a : Option Addr) (len cap p : Nat) (w : World) (r : Option (Vl × Nat)) (e : Ending) (w' : World) : Prop :=
  (∀ v k, r = some (v, k) → e = .returned (.tuple #[.agg #[.int .i64 v.k, .int .i64 v.n, .string v.s], .nilIface]) ∧ Goes g a len cap w (p + k) w') ∧ (r = none → ∃ k n s x q, e = .returned (.tuple #[.agg #[.int .i64 k, .int .i64 n, .string s], x]) ∧ Flaw x ∧ Goes g a len cap w q w')
theorem ValPost.yes {g : Nat} {a : Option Addr} {len cap p : Nat} {w w' : World} {v : Vl} {k : Nat} {e : Ending} (h1 : e = .returned (.tuple #[.agg #[.int .i64 v.k, .int .i64 v.n, .string v.s], .nilIface])) (h2 : Goes g a len cap w (p + k) w') : ValPost g a len cap p w (some (v, k)) e w' :=
  ⟨fun _ _ h => (by cases h; exact ⟨h1, h2⟩), fun h => (by cases h)⟩
theorem ValPost.no {g : Nat} {a : Option Addr} {len cap p q : Nat} {w w' : World} {k n : Int} {s : ByteArray} {x : Value} {e : Ending} (h1 : e = .returned (.tuple #[.agg #[.int .i64 k, .int .i64 n, .string s], x])) (hx : Flaw x) (h2 : Goes g a len cap w q w') : ValPost g a len cap p w none e w' :=
  ⟨fun _ _ h => (by cases h), fun _ => ⟨_, _, _, _, _, h1, hx, h2⟩⟩
theorem next_head (g : Nat) (a : Option Addr) (l : List UInt8) (cap p : Nat) (m : Int) (w : World) (hR : Rd g a l.length cap p w) (hb : BAt g w a l) (hp : p < l.length) (hm : ((l.getD p 0).toNat : Int) = m) :
    Calls Tryd.prog 25 #[.pointer (some ⟨g, 0, none⟩)] w fun e w' => e = .returned (.tuple #[.int .u8 m, .nilIface]) ∧ Goes g a l.length cap w (p + 1) w' := by
  have := next_yes g a l cap p w hR hb hp
  unfold bV at this
  rw [hm] at this
  exact this
theorem BAt.alloc {B : Nat} {w : World} {a : Option Addr} {l : List UInt8} (h : BAt B w a l) (o : Obj) : BAt B (w.alloc o) a l := h.keep (World.grownBy_alloc w o none) (by simp)
theorem Sent.alloc {G : Nat} {w : World} (h : Sent G w) (o : Obj) : Sent G (w.alloc o) := h.keep (g := G) (World.grownBy_alloc w o (some G)) (Nat.le_refl _)

set_option maxRecDepth 100000 in
set_option maxHeartbeats 3200000 in
theorem value_end (G g : Nat) (a : Option Addr) (len cap : Nat) (w : World) (hR : Rd g a len cap len w) (hS : Sent G w) (hG : G ≤ g) :
    Calls Tryd.prog 16 #[.pointer (some ⟨g, 0, none⟩)] w (ValPost g a len cap len w none) := by
  have hgs := hR.cells.2.2.2
  have HN := Lib.hid (fun o => next_end G g a len cap (w.alloc o) (hR.alloc o) (hS.alloc o))
  have HB := Lib.hid (Box3.new w (.int .i64 0) (.int .i64 0) (.string ⟨#[]⟩) 30)
  have HG := Lib.hid hG
  clear hR hS
  go_enter Tryd.func16, Tryd.ntmps16
  go_wp2_with fail
  refine (HN.out _).mono ?_
  rintro e w1 ⟨v, rfl, ⟨x, t9, q9, rfl⟩, K⟩
  have HK := Lib.hid K
  obtain ⟨c0, c1, c2, f0, f1, f2⟩ := HB.out.keep K.1 (by omega)
  clear K
  go_wp2_with fail
  refine bodyPost_ret (v := .tuple #[.agg #[.int .i64 0, .int .i64 0, .string ⟨#[]⟩], .iface 63 (.agg #[.int .i64 x, .iface t9 q9])]) (by simp [results, Tryd.results16, go_sem, c0, c1, c2]) rfl ?_
  refine ValPost.no rfl ⟨_, _, _, rfl⟩ (((HK.out.first.box (Nat.le_refl _) (by omega) _ _).box (Nat.le_refl _) (by omega) _ _).box (Nat.le_refl _) (by omega) _ _)


set_option maxRecDepth 100000 in
set_option maxHeartbeats 3200000 in
theorem value_0 (g : Nat) (a : Option Addr) (l : List UInt8) (cap p : Nat) (w : World) (hR : Rd g a l.length cap p w) (hb : BAt g w a l) (hp : p < l.length) (hm : (l.getD p 0).toNat = 0) :
    Calls Tryd.prog 16 #[.pointer (some ⟨g, 0, none⟩)] w (ValPost g a l.length cap p w (some (⟨0, 0, ⟨#[]⟩⟩, 1))) := by
  have hgs := hR.cells.2.2.2
  have HN := Lib.hid (fun o => next_head g a l cap p 0 (w.alloc o) (hR.alloc o) (hb.alloc o) hp (by rw [hm]; rfl))
  have HB := Lib.hid (Box3.new w (.int .i64 0) (.int .i64 0) (.string ⟨#[]⟩) 30)
  clear hR hb hm
  go_enter Tryd.func16, Tryd.ntmps16
  go_wp2_with fail
  refine (HN.out _).mono ?_
  rintro e w1 ⟨rfl, K⟩
  have HK := Lib.hid K.first
  have hgrown := Lib.hid K.1
  obtain ⟨c0, c1, c2, f0, f1, f2⟩ := HB.out.keep K.1 (by omega)
  clear K
  go_wp2_with fail
  refine bodyPost_ret (v := .tuple #[.agg #[.int .i64 0, .int .i64 0, .string ⟨#[]⟩], .nilIface]) (by simp [results, Tryd.results16, go_sem, c0, c1, c2]) rfl ?_
  exact ValPost.yes rfl (((HK.out.box (Nat.le_refl _) (by omega) _ _).box (Nat.le_refl _) (by omega) _ _).box (Nat.le_refl _) (by omega) _ _)

set_option maxRecDepth 100000 in
set_option maxHeartbeats 3200000 in
theorem value_1 (g : Nat) (a : Option Addr) (l : List UInt8) (cap p : Nat) (w : World) (hR : Rd g a l.length cap p w) (hb : BAt g w a l) (hp : p < l.length) (hm : (l.getD p 0).toNat = 1) :
    Calls Tryd.prog 16 #[.pointer (some ⟨g, 0, none⟩)] w (ValPost g a l.length cap p w (some (⟨1, 0, ⟨#[]⟩⟩, 1))) := by
  have hgs := hR.cells.2.2.2
  have HN := Lib.hid (fun o => next_head g a l cap p 1 (w.alloc o) (hR.alloc o) (hb.alloc o) hp (by rw [hm]; rfl))
  have HB := Lib.hid (Box3.new w (.int .i64 0) (.int .i64 0) (.string ⟨#[]⟩) 30)
  clear hR hb hm
  go_enter Tryd.func16, Tryd.ntmps16
  go_wp2_with fail
  refine (HN.out _).mono ?_
  rintro e w1 ⟨rfl, K⟩
  have HK := Lib.hid K.first
  have hgrown := Lib.hid K.1
  obtain ⟨c0, c1, c2, f0, f1, f2⟩ := HB.out.keep K.1 (by omega)
  clear K
  go_wp2_with fail
  refine bodyPost_ret (v := .tuple #[.agg #[.int .i64 1, .int .i64 0, .string ⟨#[]⟩], .nilIface]) (by simp [results, Tryd.results16, go_sem, c0, c1, c2]) rfl ?_
  exact ValPost.yes rfl (((HK.out.box (Nat.le_refl _) (by omega) _ _).box (Nat.le_refl _) (by omega) _ _).box (Nat.le_refl _) (by omega) _ _)

set_option maxRecDepth 100000 in
set_option maxHeartbeats 3200000 in
theorem value_2 (g : Nat) (a : Option Addr) (l : List UInt8) (cap p : Nat) (w : World) (hR : Rd g a l.length cap p w) (hb : BAt g w a l) (hp : p < l.length) (hm : (l.getD p 0).toNat = 2) :
    Calls Tryd.prog 16 #[.pointer (some ⟨g, 0, none⟩)] w (ValPost g a l.length cap p w (some (⟨1, 1, ⟨#[]⟩⟩, 1))) := by
  have hgs := hR.cells.2.2.2
  have HN := Lib.hid (fun o => next_head g a l cap p 2 (w.alloc o) (hR.alloc o) (hb.alloc o) hp (by rw [hm]; rfl))
  have HB := Lib.hid (Box3.new w (.int .i64 0) (.int .i64 0) (.string ⟨#[]⟩) 30)
  clear hR hb hm
  go_enter Tryd.func16, Tryd.ntmps16
  go_wp2_with fail
  refine (HN.out _).mono ?_
  rintro e w1 ⟨rfl, K⟩
  have HK := Lib.hid K.first
  have hgrown := Lib.hid K.1
  obtain ⟨c0, c1, c2, f0, f1, f2⟩ := HB.out.keep K.1 (by omega)
  clear K
  go_wp2_with fail
  refine bodyPost_ret (v := .tuple #[.agg #[.int .i64 1, .int .i64 1, .string ⟨#[]⟩], .nilIface]) (by simp [results, Tryd.results16, go_sem, c0, c1, c2]) rfl ?_
  exact ValPost.yes rfl (((HK.out.box (Nat.le_refl _) (by omega) _ _).box (Nat.le_refl _) (by omega) _ _).box (Nat.le_refl _) (by omega) _ _)

set_option maxRecDepth 100000 in
set_option maxHeartbeats 3200000 in
theorem value_3 (G g : Nat) (a : Option Addr) (l : List UInt8) (cap p : Nat) (w : World) (hR : Rd g a l.length cap p w) (hb : BAt g w a l) (hp : p < l.length) (hS : Sent G w) (hG : G ≤ g) (hm : (l.getD p 0).toNat = 3) :
    Calls Tryd.prog 16 #[.pointer (some ⟨g, 0, none⟩)] w (ValPost g a l.length cap p w ((readN (l.drop (p + 1))).map fun x => (⟨2, zag x.1, ⟨#[]⟩⟩, x.2 + 1))) := by
  have hgs := hR.cells.2.2.2
  have HN := Lib.hid (fun o => next_head g a l cap p 3 (w.alloc o) (hR.alloc o) (hb.alloc o) hp (by rw [hm]; rfl))
  have HB := Lib.hid (Box3.new w (.int .i64 0) (.int .i64 0) (.string ⟨#[]⟩) 30)
  have HNm := Lib.hid (fun w1 (h : w.grownBy w1 (some g)) (hr : Rd g a l.length cap (p + 1) w1) => rnumber_any G g a l cap (p + 1) w1 hr (hb.keep h (by simp)) hp (hS.keep h hG) hG)
  cases hr : readN (l.drop (p + 1)) with
  | none =>
    have Hr := Lib.hid hr
    have HT := Lib.hid (fun w => toInt_any 0 w (by omega))
    clear hR hb hm hS hr
    go_enter Tryd.func16, Tryd.ntmps16
    go_wp2_with fail
    refine (HN.out _).mono ?_
    rintro e w1 ⟨rfl, K⟩
    have HK := Lib.hid K.first
    have hgrown := Lib.hid K.1
    obtain ⟨c0, c1, c2, f0, f1, f2⟩ := HB.out.keep K.1 (by omega)
    clear K
    go_wp2_with fail
    refine (HNm.out _ HK.out.1 HK.out.2).mono ?_
    rintro e w2 ⟨_, h2⟩
    obtain ⟨x, q, rfl, ⟨y, t9, q9, rfl⟩, K2⟩ := h2 Hr.out
    obtain ⟨d0, d1, d2, e0, e1, e2⟩ := (HB.out.keep hgrown.out (by omega)).keep K2.1 (by omega)
    have HK2 := Lib.hid (HK.out.trans K2)
    clear K2 c0 c1 c2 f0 f1 f2 h2
    go_wp2_with fail
    refine (HT.out _).mono ?_
    rintro e w3 ⟨rfl, rfl⟩
    go_wp2_with fail
    refine bodyPost_ret (v := .tuple #[.agg #[.int .i64 2, .int .i64 (zag 0), .string ⟨#[]⟩], .iface 63 (.agg #[.int .i64 y, .iface t9 q9])]) (by simp [results, Tryd.results16, go_sem, d0, d1, d2]) rfl ?_
    exact ValPost.no rfl ⟨_, _, _, rfl⟩ (((HK2.out.box (Nat.le_refl _) (by omega) _ _).box (Nat.le_refl _) (by omega) _ _).box (Nat.le_refl _) (by omega) _ _)
  | some x =>
    obtain ⟨n, k⟩ := x
    obtain ⟨_, _, _, hn, _⟩ := readN_some hr
    have Hr := Lib.hid hr
    have HT := Lib.hid (fun w => toInt_any n w hn)
    obtain ⟨z, hz⟩ : ∃ z, z = zag n := ⟨_, rfl⟩
    rw [← hz] at HT
    have Hz := Lib.hid hz
    clear hR hb hm hS hr hn hz
    go_enter Tryd.func16, Tryd.ntmps16
    go_wp2_with fail
    refine (HN.out _).mono ?_
    rintro e w1 ⟨rfl, K⟩
    have HK := Lib.hid K.first
    have hgrown := Lib.hid K.1
    obtain ⟨c0, c1, c2, f0, f1, f2⟩ := HB.out.keep K.1 (by omega)
    clear K
    go_wp2_with fail
    refine (HNm.out _ HK.out.1 HK.out.2).mono ?_
    rintro e w2 ⟨h2, _⟩
    obtain ⟨rfl, K2⟩ := h2 n k Hr.out
    obtain ⟨d0, d1, d2, e0, e1, e2⟩ := (HB.out.keep hgrown.out (by omega)).keep K2.1 (by omega)
    have HK2 := Lib.hid (show Goes g a l.length cap w (p + (k + 1)) w2 from (by rw [show p + (k + 1) = p + 1 + k from by omega]; exact HK.out.trans K2))
    clear K2 c0 c1 c2 f0 f1 f2 h2
    go_wp2_with fail
    refine (HT.out _).mono ?_
    rintro e w3 ⟨rfl, rfl⟩
    go_wp2_with fail
    refine bodyPost_ret (v := .tuple #[.agg #[.int .i64 2, .int .i64 z, .string ⟨#[]⟩], .nilIface]) (by simp [results, Tryd.results16, go_sem, d0, d1, d2]) rfl ?_
    exact ValPost.yes (by rw [Hz.out]) (((HK2.out.box (Nat.le_refl _) (by omega) _ _).box (Nat.le_refl _) (by omega) _ _).box (Nat.le_refl _) (by omega) _ _)

set_option maxRecDepth 100000 in
set_option maxHeartbeats 3200000 in
theorem value_4 (G g : Nat) (a : Option Addr) (l : List UInt8) (cap p : Nat) (w : World) (hR : Rd g a l.length cap p w) (hb : BAt g w a l) (hp : p < l.length) (hS : Sent G w) (hG : G ≤ g) (hm : (l.getD p 0).toNat = 4) (hcap : l.length ≤ cap) (hcapm : cap ≤ 9223372036854775807) :
    Calls Tryd.prog 16 #[.pointer (some ⟨g, 0, none⟩)] w (ValPost g a l.length cap p w ((readS 60 (l.drop (p + 1))).map fun x => (⟨3, 0, ⟨x.1.toArray⟩⟩, x.2 + 1))) := by
  have hgs := hR.cells.2.2.2
  have HN := Lib.hid (fun o => next_head g a l cap p 4 (w.alloc o) (hR.alloc o) (hb.alloc o) hp (by rw [hm]; rfl))
  have HB := Lib.hid (Box3.new w (.int .i64 0) (.int .i64 0) (.string ⟨#[]⟩) 30)
  have HNm := Lib.hid (fun w1 (h : w.grownBy w1 (some g)) (hr : Rd g a l.length cap (p + 1) w1) => text_any4 G g a l cap (p + 1) 60 w1 hr (hb.keep h (by simp)) hp (hS.keep h hG) hG (by omega) hcap hcapm)
  cases hr : readS 60 (l.drop (p + 1)) with
  | none =>
    have Hr := Lib.hid hr
    clear hR hb hm hS hr
    go_enter Tryd.func16, Tryd.ntmps16
    go_wp2_with fail
    refine (HN.out _).mono ?_
    rintro e w1 ⟨rfl, K⟩
    have HK := Lib.hid K.first
    have hgrown := Lib.hid K.1
    obtain ⟨c0, c1, c2, f0, f1, f2⟩ := HB.out.keep K.1 (by omega)
    clear K
    go_wp2_with fail
    refine (HNm.out _ HK.out.1 HK.out.2).mono ?_
    rintro e w2 ⟨_, h2⟩
    obtain ⟨x, q, rfl, ⟨y, t9, q9, rfl⟩, K2⟩ := h2 Hr.out
    obtain ⟨d0, d1, d2, e0, e1, e2⟩ := (HB.out.keep hgrown.out (by omega)).keep K2.1 (by omega)
    have HK2 := Lib.hid (HK.out.trans K2)
    clear K2 c0 c1 c2 f0 f1 f2 h2
    go_wp2_with fail
    refine bodyPost_ret (v := .tuple #[.agg #[.int .i64 3, .int .i64 0, .string ⟨#[]⟩], .iface 63 (.agg #[.int .i64 y, .iface t9 q9])]) (by simp [results, Tryd.results16, go_sem, d0, d1, d2]) rfl ?_
    exact ValPost.no rfl ⟨_, _, _, rfl⟩ (((HK2.out.box (Nat.le_refl _) (by omega) _ _).box (Nat.le_refl _) (by omega) _ _).box (Nat.le_refl _) (by omega) _ _)
  | some x =>
    obtain ⟨t, k⟩ := x
    have Hr := Lib.hid hr
    obtain ⟨z, hz⟩ : ∃ z : ByteArray, z = ⟨t.toArray⟩ := ⟨_, rfl⟩
    have Hz := Lib.hid hz
    clear hR hb hm hS hr hz
    go_enter Tryd.func16, Tryd.ntmps16
    go_wp2_with fail
    refine (HN.out _).mono ?_
    rintro e w1 ⟨rfl, K⟩
    have HK := Lib.hid K.first
    have hgrown := Lib.hid K.1
    obtain ⟨c0, c1, c2, f0, f1, f2⟩ := HB.out.keep K.1 (by omega)
    clear K
    go_wp2_with fail
    refine (HNm.out _ HK.out.1 HK.out.2).mono ?_
    rintro e w2 ⟨h2, _⟩
    obtain ⟨rfl, K2⟩ := h2 t k Hr.out
    rw [← Hz.out]
    obtain ⟨d0, d1, d2, e0, e1, e2⟩ := (HB.out.keep hgrown.out (by omega)).keep K2.1 (by omega)
    have HK2 := Lib.hid (show Goes g a l.length cap w (p + (k + 1)) w2 from (by rw [show p + (k + 1) = p + 1 + k from by omega]; exact HK.out.trans K2))
    clear K2 c0 c1 c2 f0 f1 f2 h2
    go_wp2_with fail
    refine bodyPost_ret (v := .tuple #[.agg #[.int .i64 3, .int .i64 0, .string z], .nilIface]) (by simp [results, Tryd.results16, go_sem, d0, d1, d2]) rfl ?_
    exact ValPost.yes (by rw [Hz.out]) (((HK2.out.box (Nat.le_refl _) (by omega) _ _).box (Nat.le_refl _) (by omega) _ _).box (Nat.le_refl _) (by omega) _ _)

set_option maxRecDepth 100000 in
set_option maxHeartbeats 3200000 in
theorem value_5 (G g : Nat) (a : Option Addr) (l : List UInt8) (cap p : Nat) (w : World) (hR : Rd g a l.length cap p w) (hb : BAt g w a l) (hp : p < l.length) (hS : Sent G w) (hG : G ≤ g) (hm : 4 < (l.getD p 0).toNat) :
    Calls Tryd.prog 16 #[.pointer (some ⟨g, 0, none⟩)] w (ValPost g a l.length cap p w none) := by
  have hgs := hR.cells.2.2.2
  obtain ⟨m, hm2, hm3⟩ : ∃ m : Int, ((l.getD p 0).toNat : Int) = m ∧ 4 < m := ⟨_, rfl, by omega⟩
  have HN := Lib.hid (fun o => next_head g a l cap p m (w.alloc o) (hR.alloc o) (hb.alloc o) hp hm2)
  have HW := Lib.hid (fun q t v w' (hr : Rd g a l.length cap q w') => wrong_any g a l.length cap q t v w' hr)
  have HS := Lib.hid hS
  have HB := Lib.hid (Box3.new w (.int .i64 0) (.int .i64 0) (.string ⟨#[]⟩) 30)
  have m0 : (m == 0) = false := beq_eq_false_iff_ne.2 (by omega)
  have m1 : (m == 1) = false := beq_eq_false_iff_ne.2 (by omega)
  have m2 : (m == 2) = false := beq_eq_false_iff_ne.2 (by omega)
  have m3 : (m == 3) = false := beq_eq_false_iff_ne.2 (by omega)
  have m4 : (m == 4) = false := beq_eq_false_iff_ne.2 (by omega)
  clear hR hb hm hm2 hS
  go_enter Tryd.func16, Tryd.ntmps16
  go_wp2_with fail
  refine (HN.out _).mono ?_
  rintro e w1 ⟨rfl, K⟩
  have HK := Lib.hid K.first
  have hgrown := Lib.hid K.1
  obtain ⟨c0, c1, c2, f0, f1, f2⟩ := HB.out.keep K.1 (by omega)
  obtain ⟨_, _, _, ⟨_, t4, q4, cg⟩, _⟩ := HS.out.keep HK.out.1 hG
  clear K
  go_wp2_with fail
  refine (HW.out _ _ _ _ HK.out.2).mono ?_
  rintro e w2 ⟨v, n, rfl, ⟨y, t9, q9, rfl⟩, rfl⟩
  go_wp2_with fail
  refine bodyPost_ret (v := .tuple #[.agg #[.int .i64 0, .int .i64 0, .string ⟨#[]⟩], .iface 63 (.agg #[.int .i64 y, .iface t9 q9])]) (by simp [results, Tryd.results16, go_sem, c0, c1, c2]) rfl ?_
  exact ValPost.no (q := p + 1) rfl ⟨_, _, _, rfl⟩ ((((show Goes g a l.length cap w (p + 1) (w1.drewN n) from ⟨grown_drewN HK.out.1 n, HK.out.2⟩).box (Nat.le_refl _) (by omega) _ _).box (Nat.le_refl _) (by omega) _ _).box (Nat.le_refl _) (by omega) _ _)

theorem value_any4 (G g : Nat) (a : Option Addr) (l : List UInt8) (cap p : Nat) (w : World) (hR : Rd g a l.length cap p w) (hb : BAt g w a l) (hp : p ≤ l.length) (hS : Sent G w) (hG : G ≤ g) (hcap : l.length ≤ cap) (hcapm : cap ≤ 9223372036854775807) :
    Calls Tryd.prog 16 #[.pointer (some ⟨g, 0, none⟩)] w (ValPost g a l.length cap p w (readV (l.drop p))) := by
  by_cases he : p = l.length
  · subst he
    rw [List.drop_length]
    exact value_end G g a l.length cap w hR hS hG
  · have hlt : p < l.length := by omega
    rw [drop_cons hlt, readV]
    have hc : ∀ m : Nat, m < 256 → (l.getD p 0 = UInt8.ofNat m ↔ (l.getD p 0).toNat = m) := fun m hm => by
      rw [← UInt8.toNat_inj, UInt8.toNat_ofNat_of_lt' (by simp [UInt8.size]; omega)]
    split
    · next h => exact value_0 g a l cap p w hR hb hlt ((hc 0 (by omega)).1 h)
    split
    · next h => exact value_1 g a l cap p w hR hb hlt ((hc 1 (by omega)).1 h)
    split
    · next h => exact value_2 g a l cap p w hR hb hlt ((hc 2 (by omega)).1 h)
    split
    · next h => exact value_3 G g a l cap p w hR hb hlt hS hG ((hc 3 (by omega)).1 h)
    split
    · next h => exact value_4 G g a l cap p w hR hb hlt hS hG ((hc 4 (by omega)).1 h) hcap hcapm
    · next h0 h1 h2 h3 h4 =>
      have g0 := mt (hc 0 (by omega)).2 h0
      have g1 := mt (hc 1 (by omega)).2 h1
      have g2 := mt (hc 2 (by omega)).2 h2
      have g3 := mt (hc 3 (by omega)).2 h3
      have g4 := mt (hc 4 (by omega)).2 h4
      exact value_5 G g a l cap p w hR hb hlt hS hG (by omega)
end Go.Proofs.YtnfpomjcofhppaaDoor
