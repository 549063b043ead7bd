/- The laws' fixed fact. Any catalog's store in memory, behind commits; commits that come in. A snapshot's rows with their memory known whole; lists of them. -/
import Derived.Test.YtnfpomjcofhppaaGreatDoorZb40
import Derived.Test.YtnfpomjcofhppaaGreatDoorZb39
import Derived.Test.YtnfpomjcofhppaaGreatDoorZb28
import Derived.Test.YtnfpomjcofhppaaGreatDoorZb24
namespace Go.Proofs.YtnfpomjcofhppaaGreatDoor
open Go.RowKit

theorem xs_new (w : World) (G : Nat) (s : Stm) (w2 : World) (hs : SAt w.heap.size w2 s) (hE : ErrT G w) (hG : G ≤ w.heap.size) (hg : w.grownBy w2 none) (hsn : s.sn = [default]) (hts : ExT s.ts) : XS w G s.b w2 s 0 (fun _ => none) := by
  have ht : s.top = default := by unfold Stm.top; rw [hsn]; rfl
  refine ⟨hs, hE.grown hg, rfl, hts, ⟨?_, ?_, fun m => ?_, fun i _ _ => ?_⟩, hG, hg⟩
  all_goals rw [ht]
  · exact List.Pairwise.nil
  · rfl
  · rfl
  · exact Nat.zero_le _
set_option maxRecDepth 100000 in
set_option maxHeartbeats 6400000 in
theorem awake9_any (G : Nat) (w : World) (hw : WhyG w) (hE : ErrT G w) (hG : G ≤ w.heap.size) :
    Calls Tryz.prog 4 #[] w fun e w' => e = .returned (.bool true) ∧ w.grownBy w' none := by
  have HC := Lib.hid (catalogX_any w)
  have HW := Lib.hid (And.intro hw (And.intro hE hG))
  have HP := Lib.hid putX_any
  clear hw hE hG
  go_enter Tryz.func4, Tryz.ntmps4
  go_wp2_with fail
  refine HC.out.mono ?_
  rintro e w1 ⟨⟨a, a', rfl, ht⟩, hg1⟩
  have HN := Lib.hid (newS_ok a 1 G (fun b => w.heap.size ≤ b) [exTab a'] w1 ht (by simp) (fun t ht => by simp only [List.mem_cons, List.not_mem_nil, or_false] at ht; subst ht; exact Nat.le_refl 2) (HW.out.1.grown hg1) (HW.out.2.1.grown hg1) (ex_right a'))
  simp only [List.length_cons, List.length_nil, Nat.zero_add] at HN
  have G1 := Lib.hid hg1
  clear ht hg1 HC
  go_wp2_with fail
  refine HN.out.mono ?_
  rintro e w2 ⟨⟨s, rfl, hs, hv0, hcs, hsn, hts⟩, hg2⟩
  have X2 := xs_new w1 G s w2 hs (HW.out.2.1.grown G1.out) (Nat.le_trans HW.out.2.2 G1.out.size) hg2 hsn hts
  generalize s.b = b at *
  have X2 := Lib.hid X2
  have V2 := Lib.hid hv0
  clear hs hv0 hcs hsn hts hg2 HN
  go_wp2_with fail
  refine (HP.out 1 ⟨#[97]⟩ _ (by decide)).mono ?_
  rintro e w3 ⟨⟨a3, rfl, hr3⟩, hg3⟩
  have R3 := Lib.hid hr3
  have G3 := Lib.hid hg3
  clear hr3 hg3
  go_wp2_with fail
  refine (HP.out 2 ⟨#[98]⟩ _ (by decide)).mono ?_
  rintro e w4 ⟨⟨a4, rfl, hr4⟩, hg4⟩
  have HC1 := Lib.hid (X2.out.putTwo G3.out hg4 a3 a4 1 2 ⟨#[97]⟩ ⟨#[98]⟩ R3.out hr4 (by decide) (by decide) rfl rfl (by decide) (by decide) (by rw [V2.out]; decide))
  rw [V2.out] at HC1
  clear hr4 hg4 R3 G3
  go_wp2_with fail
  refine HC1.out.mono ?_
  rintro e w5 ⟨s5, c5, n5, rfl, hx5, hv5⟩
  have B5 := heap_alloc_new w5 (.cells #[.int .i64 1, .slice c5 2 n5] 36)
  have N5 := hx5.new (grown_reflT w5 none)
  have X5 := Lib.hid (hx5.keepG (World.grownBy_alloc w5 (.cells #[.int .i64 1, .slice c5 2 n5] 36) none))
  have L5 : w5.heap.size < (w5.alloc (.cells #[.int .i64 1, .slice c5 2 n5] 36)).heap.size := by simp
  have V5 := Lib.hid hv5
  clear hx5 hv5 HC1 X2 V2
  go_wp2_with fail
  refine (HP.out 1 ⟨#[97]⟩ _ (by decide)).mono ?_
  rintro e w6 ⟨⟨a6, rfl, hr6⟩, hg6⟩
  have HC2 := Lib.hid (X5.out.putSame hg6 a6 1 ⟨#[97]⟩ hr6 (by decide) (by simp [updX]) (by decide) (by rw [V5.out]; decide))
  rw [V5.out] at HC2
  clear hr6 hg6
  go_wp2_with fail
  refine HC2.out.mono ?_
  rintro e w7 ⟨s7, c7, n7, rfl, hx7, hv7, hst7⟩
  have B7 := (hst7 _ L5 N5).trans B5
  have hg8 := World.grownBy_alloc w7 (.cells #[.int .i64 2, .slice c7 0 n7] 36) none
  have B8 := Lib.hid (And.intro ((hg8.block _ (Array.getElem?_eq_some_iff.1 B7).1 (by simp)).trans B7) (heap_alloc_new w7 (.cells #[.int .i64 2, .slice c7 0 n7] 36)))
  have X7 := Lib.hid (hx7.keepG hg8)
  have V7 := Lib.hid hv7
  clear hx7 hv7 HC2 X5 B5 N5 L5 hst7 B7 hg8
  have HI := Lib.hid (refInt_any 3)
  have HC3 := Lib.hid (X7.out.delNone ((World.grownBy_alloc _ (.cells #[.int .i64 2, .int .i64 3, .string ⟨#[]⟩] 74) none).trans (World.grownBy_alloc _ (.cells #[.int .i64 2, .int .i64 3, .string ⟨#[]⟩] 74) none)) _ 3 (rw_one _ 74 (viV 3) _ (by simp) (show 0 ≤ maxLen from Nat.zero_le _)) (by simp [updX]) (by rw [V7.out]; decide))
  simp only [World.size_alloc] at HC3
  have hsz8 : (w7.alloc (.cells #[.int .i64 2, .slice c7 0 n7] 36)).heap.size = w7.heap.size + 1 := by simp
  go_wp2_with fail
  refine (HI.out _).mono ?_
  rintro e w8 ⟨rfl, rfl⟩
  unfold vi
  go_wp2_with fail
  refine HC3.out.mono ?_
  rintro e w9 ⟨rfl, hx9, hg9⟩
  have hg10 := hg9.trans (World.grownBy_alloc w9 (.cells #[.int .i64 0, .slice none 0 0] 36) none)
  have b1 := (hg10.block _ (Array.getElem?_eq_some_iff.1 B8.out.1).1 (by simp)).trans B8.out.1
  have b2 := (hg10.block _ (Array.getElem?_eq_some_iff.1 B8.out.2).1 (by simp)).trans B8.out.2
  have c0 := cell_of_row _ _ 0 _ _ _ b1
  have c1 := cell_of_row _ _ 1 _ _ _ b1
  have d0 := cell_of_row _ _ 0 _ _ _ b2
  have d1 := cell_of_row _ _ 1 _ _ _ b2
  simp at c0 c1 d0 d1
  have HV := Lib.hid (versionS_any w1.heap.size s7 _ (hx9.at_.keepG (World.grownBy_alloc w9 (.cells #[.int .i64 0, .slice none 0 0] 36) none)))
  rw [hx9.hb, V7.out] at HV
  have GE := Lib.hid (HW.out.1.grown G1.out)
  have GR := Lib.hid (G1.out.trans (hx9.gr.trans (World.grownBy_alloc w9 (.cells #[.int .i64 0, .slice none 0 0] 36) none)))
  clear hx9 hg9 hg10 b1 b2 HC3 X7 B8 V7
  go_wp2_with fail
  refine HV.out.mono ?_
  rintro e w10 ⟨rfl, hg⟩
  have GX := Lib.hid (GR.out.trans hg)
  clear hg
  go_wp2_with fail
  go_ret
  exact ⟨rfl, GX.out⟩
end Go.Proofs.YtnfpomjcofhppaaGreatDoor
namespace Go.Proofs.YtnfpomjcofhppaaGreatDoor
open Go.RowKit

/-- Operations that come in: rows of any length. -/
def OpR (S : Nat → Prop) (w : World) (a : Ptr) (l : List Om) : Prop :=
  l.length ≤ 9223372036854775807 ∧ (∀ o ∈ l, (o.r.l.length ≤ 4294967296 → RwS S w o.r.a o.r.l) ∧ o.r.l.length ≤ o.r.cap) ∧ (l = [] ∨ ∃ b off, a = some ⟨b, off, none⟩ ∧ S b ∧ b < w.heap.size ∧ ∀ i, i < l.length → w.cell? ⟨b, off + i * 3, none⟩ = some (.int .i64 (l.getD i default).k) ∧ w.cell? ⟨b, off + i * 3 + 1, none⟩ = some (.string (l.getD i default).n) ∧ w.cell? ⟨b, off + i * 3 + 2, none⟩ = some (l.getD i default).r.v)
theorem OpR.keep {S : Nat → Prop} {w w' : World} {a : Ptr} {l : List Om} (h : OpR S w a l) (hk : Stays S w w') : OpR S w' a l := by
  refine ⟨h.1, fun o ho => ⟨fun hl => ((h.2.1 o ho).1 hl).keep hk, (h.2.1 o ho).2⟩, h.2.2.imp id fun ⟨b, off, e, hs, hlt, hc⟩ => ⟨b, off, e, hs, Nat.lt_of_lt_of_le hlt hk.1, fun i hi => ?_⟩⟩
  have hb := hk.2 b hs hlt
  exact ⟨(World.cell?_of_block (a := ⟨b, _, none⟩) hb).trans (hc i hi).1, (World.cell?_of_block (a := ⟨b, _, none⟩) hb).trans (hc i hi).2.1, (World.cell?_of_block (a := ⟨b, _, none⟩) hb).trans (hc i hi).2.2⟩
theorem OpR.ops {S : Nat → Prop} {w : World} {a : Ptr} {l : List Om} (h : OpR S w a l) (hl : ∀ o ∈ l, o.r.l.length ≤ 20) : OpS S w a l := ⟨h.1, fun o ho => ⟨(h.2.1 o ho).1 (by have := hl o ho; omega), (h.2.1 o ho).2⟩, h.2.2⟩
theorem OpR.at {S : Nat → Prop} {w : World} {a : Ptr} {l : List Om} (h : OpR S w a l) {i : Nat} (hi : i < l.length) : ∃ b off, a = some ⟨b, off, none⟩ ∧ w.cell? ⟨b, off + i * 3, none⟩ = some (.int .i64 (l.getD i default).k) ∧ w.cell? ⟨b, off + i * 3 + 1, none⟩ = some (.string (l.getD i default).n) ∧ w.cell? ⟨b, off + i * 3 + 2, none⟩ = some (l.getD i default).r.v := by
  rcases h.2.2 with h0 | ⟨b, off, e, _, _, hc⟩
  · rw [h0] at hi; simp at hi
  · exact ⟨b, off, e, hc i hi⟩
/-- It answers a truth; if it is true, P. -/
def BoolF (P : Prop) (e : Ending) : Prop := ∃ b : Bool, e = .returned (.bool b) ∧ (b = true → P)
set_option maxRecDepth 100000 in
set_option maxHeartbeats 1600000 in
theorem fits_anyR (S : Nat → Prop) (a : Option Addr) (cap : Nat) (l : List Om) (w : World) (h : OpR S w a l) (hcap : l.length ≤ cap) :
    Calls Tryz.prog 6 #[.slice a l.length cap] w fun e w' => BoolF (∀ o ∈ l, o.r.l.length ≤ 20) e ∧ w.grownBy w' none := by
  have H := Lib.hid h
  have hn9 := h.1
  obtain ⟨n, hn⟩ : ∃ n, n = l.length := ⟨_, rfl⟩
  have Hn := Lib.hid hn
  rw [← hn] at hcap hn9 ⊢
  clear h hn
  go_enter Tryz.func6, Tryz.ntmps6
  go_wp2_with fail
  go_loopw [7] (fun s7 wr => ∃ j : Nat, s7 = .int .i64 j ∧ j ≤ n ∧ Hid ((∀ i, i < j → (l.getD i default).r.l.length ≤ 20) ∧ w.grownBy wr none)) (fun s7 _ => n - (intOf s7).toNat)
  case atStart => exact ⟨0, rfl, by omega, Lib.hid ⟨fun i hi => by omega, grown_reflT _ _⟩⟩
  case round =>
    obtain ⟨j, rfl, hj, K⟩ := hrel
    by_cases hlt : j < n
    · obtain ⟨b, off, rfl, c0, c1, c2⟩ := (H.out.keep (.of K.out.2)).at (i := j) (by rw [← Hn.out]; exact hlt)
      have HX : Hid (∀ q, (l.getD j default).r.l.length = q → q ≤ 20 → ∀ i, i < j + 1 → (l.getD i default).r.l.length ≤ 20) := Lib.hid fun q hq h i hi => by
        rcases Nat.lt_or_ge i j with e | e
        · exact K.out.1 i e
        · rw [show i = j by omega, hq]; exact h
      generalize l.getD j default = x at *
      obtain ⟨xk, xn, ⟨xa, xc, xl⟩⟩ := x
      simp only [Rw.v] at c0 c1 c2 HX
      obtain ⟨xm, hxm⟩ : ∃ xm, xl.length = xm := ⟨_, rfl⟩
      have HX := Lib.hid (HX.out xm hxm)
      rw [hxm] at c2
      clear hxm
      have j0 : (j : Int) ≤ cap := by omega
      have KA := Lib.hid (K.out.2.trans (World.grownBy_alloc wr (.cells #[.int .i64 xk, .string xn, .slice xa xm xc] 70) none))
      by_cases hq : (20 : Int) < xm
      · go_wp2_with fail
        go_ret
        exact ⟨⟨false, rfl, fun h => by cases h⟩, KA.out⟩
      · go_wp2_with fail
        go_roundw
        case rel => exact ⟨j + 1, by go_num, by omega, Lib.hid ⟨HX.out (by omega), KA.out⟩⟩
        case measure => simp [intOf]; omega
    · obtain rfl : n = j := by omega
      have HP : Hid (∀ o ∈ l, o.r.l.length ≤ 20) := Lib.hid fun o ho => by
        obtain ⟨i, hi, rfl⟩ := List.getElem_of_mem ho
        have := K.out.1 i (by rw [Hn.out]; exact hi)
        simpa [List.getD, hi] using this
      go_wp2_with fail
      all_goals
        go_ret
        exact ⟨⟨_, rfl, fun _ => HP.out⟩, K.out.2⟩
/-- A commit that comes in. -/
structure Cw where
  a : Ptr
  cap : Nat
  l : List Om
instance : Inhabited Cw := ⟨⟨none, 0, []⟩⟩
def Cw.v (x : Cw) : Value := .slice x.a x.l.length x.cap
def CmG (S : Nat → Prop) (w : World) (a : Ptr) (l : List Cw) : Prop :=
  l.length ≤ 9223372036854775807 ∧ (∀ x ∈ l, OpR S w x.a x.l ∧ x.l.length ≤ x.cap) ∧ (l = [] ∨ ∃ b off, a = some ⟨b, off, none⟩ ∧ S b ∧ b < w.heap.size ∧ ∀ i, i < l.length → w.cell? ⟨b, off + i, none⟩ = some (l.getD i default).v)
theorem CmG.keep {S : Nat → Prop} {w w' : World} {a : Ptr} {l : List Cw} (h : CmG S w a l) (hk : Stays S w w') : CmG S w' a l :=
  ⟨h.1, fun x hx => ⟨(h.2.1 x hx).1.keep hk, (h.2.1 x hx).2⟩, h.2.2.imp id fun ⟨b, off, e, hs, hlt, hc⟩ => ⟨b, off, e, hs, Nat.lt_of_lt_of_le hlt hk.1, fun i hi => (World.cell?_of_block (a := ⟨b, _, none⟩) (hk.2 b hs hlt)).trans (hc i hi)⟩⟩
theorem CmG.at {S : Nat → Prop} {w : World} {a : Ptr} {l : List Cw} (h : CmG S w a l) {i : Nat} (hi : i < l.length) : (∃ b off, a = some ⟨b, off, none⟩ ∧ w.cell? ⟨b, off + i, none⟩ = some (l.getD i default).v) ∧ OpR S w (l.getD i default).a (l.getD i default).l ∧ (l.getD i default).l.length ≤ (l.getD i default).cap := by
  refine ⟨?_, h.2.1 _ (by simp [List.getD, hi])⟩
  rcases h.2.2 with h0 | ⟨b, off, e, _, _, hc⟩
  · rw [h0] at hi; simp at hi
  · exact ⟨b, off, e, hc i hi⟩
/-- A store of any catalog. -/
structure XG (w0 : World) (G b : Nat) (l : List Tb) (w : World) (s : Stm) : Prop where
  at_ : SAt w0.heap.size w s
  err : ErrT G w
  hb : s.b = b
  ts : s.ts.map Tb.p = l.map Tb.p
  gb : G ≤ w0.heap.size
  gr : w0.grownBy w none
section
variable {w0 w w2 : World} {G b : Nat} {l : List Tb} {s s' : Stm}
theorem XG.keepG (h : XG w0 G b l w s) (hg : w.grownBy w2 none) : XG w0 G b l w2 s := ⟨h.at_.keepG hg, h.err.grown hg, h.hb, h.ts, h.gb, h.gr.trans hg⟩
theorem Fresh9.xg {l : List Tb} (h : Fresh9 l w0.heap.size w s) (hE : ErrT G w0) (hG : G ≤ w0.heap.size) (hg : w0.grownBy w none) : XG w0 G s.b l w s := ⟨h.1, hE.grown hg, rfl, h.2.2.2.2.1, hG, hg⟩
/-- What isn't the store's stays, and isn't the next one's. -/
def Apart9 (s s' : Stm) (w w' : World) : Prop := w.heap.size ≤ w'.heap.size ∧ ∀ j, j < w.heap.size → ¬ s.M j → ¬ s'.M j ∧ w'.heap[j]? = w.heap[j]?
theorem Apart9.refl (s : Stm) (w : World) : Apart9 s s w w := ⟨Nat.le_refl _, fun _ _ h => ⟨h, rfl⟩⟩
theorem Apart9.trans {s1 s2 s3 : Stm} {w1 w2 w3 : World} (h : Apart9 s1 s2 w1 w2) (h' : Apart9 s2 s3 w2 w3) : Apart9 s1 s3 w1 w3 :=
  ⟨Nat.le_trans h.1 h'.1, fun j hj hM => by
    obtain ⟨a1, a2⟩ := h.2 j hj hM
    obtain ⟨b1, b2⟩ := h'.2 j (Nat.lt_of_lt_of_le hj h.1) a1
    exact ⟨b1, b2.trans a2⟩⟩
theorem Apart9.grown {s s2 : Stm} {w1 w2 w3 : World} (h : Apart9 s s2 w1 w2) (hg : w2.grownBy w3 none) : Apart9 s s2 w1 w3 :=
  ⟨Nat.le_trans h.1 hg.size, fun j hj hM => ⟨(h.2 j hj hM).1, (hg.block j (Nat.lt_of_lt_of_le hj h.1) (by simp)).trans (h.2 j hj hM).2⟩⟩
theorem Apart9.stays {w' : World} (h : Apart9 s s' w w') : Stays (fun j => ¬ s.M j ∧ j < w.heap.size) w w' := ⟨h.1, fun j hj _ => (h.2 j hj.2 hj.1).2⟩
theorem Apart9.snp {w' : World} {p cc : Nat} {ca : Ptr} {ts : List Tb} {x : Sn} (h : Apart9 s s' w w') (hp : Snp (fun k => ¬ s.M k) w p ca cc ts x) : Snp (fun k => ¬ s'.M k) w' p ca cc ts x := by
  have hlt := (Array.getElem?_eq_some_iff.1 hp.blk).1
  exact ⟨((h.2 p hlt hp.own).2).trans hp.blk, ((hp.cat.mono (fun b hb hm => (⟨hm, hb⟩ : ¬ s.M b ∧ b < w.heap.size))).keep h.stays).mono (fun b _ hb => (h.2 b hb.2 hb.1).1), fun i hi => (((hp.tre i hi).mono (fun b hb hm => (⟨hm, hb⟩ : ¬ s.M b ∧ b < w.heap.size))).keep h.stays).mono (fun b _ hb => (h.2 b hb.2 hb.1).1), (h.2 p hlt hp.own).1⟩
theorem XG.commit (h : XG w0 G b l w s) (oa : Ptr) (oc : Nat) (ol : List Om) (ho : OpS (fun j => ¬ s.M j) w oa ol) (hoc : ol.length ≤ oc) (hv : s.v < 100000) :
    Calls Tryz.prog 7 #[.pointer (some ⟨b, 0, none⟩), .slice oa ol.length oc] w fun e w' => (∃ v, e = .returned v) ∧ ∃ s', XG w0 G b l w' s' ∧ s.v ≤ s'.v ∧ s'.v ≤ s.v + 1 ∧ Apart9 s s' w w' := by
  have hc := commit_any w0.heap.size G s oa oc ol w h.at_ h.err ho hoc hv h.gr.size
  rw [h.hb] at hc
  refine hc.mono ?_
  rintro e w' (⟨c, _, rfl, hg⟩ | ⟨ms, s', a, cap, cl, _, rfl, _, _, _, hw⟩)
  · exact ⟨⟨_, rfl⟩, s, h.keepG hg, Int.le_refl _, by omega, (Apart9.refl s w).grown hg⟩
  · have hg : w0.grownBy w' none := only_grown h.gr hw.only h.at_.low
    refine ⟨⟨_, rfl⟩, s', ⟨hw.at_, h.err.only hw.only (fun j hj => Nat.le_trans h.gb (h.at_.low j hj)), hw.b.trans h.hb, by rw [hw.ts]; exact h.ts, h.gb, hg⟩, by rw [hw.v]; omega, by rw [hw.v]; omega, hw.only.size, fun j hj hM => ⟨fun e => ?_, hw.only.block j hj hM⟩⟩
    rcases hw.M j e with e | e
    · exact hM e
    · omega
theorem XG.ops (h : XG w0 G b l w s) {oa : Ptr} {ol : List Om} {S : Nat → Prop} (hS : ∀ j, S j → j < w0.heap.size) (ho : OpS S w oa ol) : OpS (fun j => ¬ s.M j) w oa ol := ho.mono (fun j _ hj e => by have := h.at_.low j e; have := hS j hj; omega)
end
end Go.Proofs.YtnfpomjcofhppaaGreatDoor
namespace Go.Proofs.YtnfpomjcofhppaaGreatDoor
open Go.RowKit

set_option maxRecDepth 100000 in
set_option maxHeartbeats 3200000 in
theorem rowsT2_any (S : Nat → Prop) (t : Tre) (p : Ptr) (w : World) (ht : TrAt S w t p) (hs : Tr.Sorted rowsOrd t.toL) (hn : t.n ≤ 100000000) :
    Calls Tryz.prog 31 #[.pointer p] w fun e w' => (∃ (vo : Value) (done : List Rw), e = .returned vo ∧ w'.ownsRow w.heap.size 55 1 vo done.length (done.map Rw.v) ∧ (∀ x ∈ done, RwF (fun b => w.heap.size ≤ b ∧ vo.ownBlock ≠ some b) w' x) ∧ done.map Rw.l = t.toL.map Prod.snd) ∧ w.grownBy w' none := by
  have HL := Lib.hid (len_any S t p w ht)
  have HF := Lib.hid (from2_any ro_ord S t p none 0 [] (t.n : Nat) w ht hs hn ⟨by simp, by simp, .inl rfl⟩ (by simp))
  have e : ((fromL [] t.toL).map Prod.snd).take ((t.n : Nat) : Int).toNat = t.toL.map Prod.snd := by
    rw [from_nil, List.take_of_length_le]
    rw [List.length_map, Int.toNat_natCast, Tr.n_toL]
    exact Nat.le_refl _
  rw [e] at HF
  simp only [List.length_nil] at HF
  clear ht hs e
  generalize t.n = n at *
  go_enter Tryz.func31, Tryz.ntmps31
  go_wp2_with fail
  refine HL.out.mono ?_
  rintro e w1 ⟨rfl, rfl⟩
  go_wp2_with fail
  refine HF.out.mono ?_
  rintro e w2 ⟨⟨vo, done, rfl, h1, h2, h3⟩, hg⟩
  have D := Lib.hid (And.intro h1 (And.intro h2 (And.intro h3 hg)))
  obtain ⟨ao, cap, hvo⟩ := own_slice h1
  clear h1 h2 h3 hg
  subst hvo
  go_wp2_with fail
  go_ret
  exact ⟨⟨_, done, rfl, D.out.1, D.out.2.1, D.out.2.2.1⟩, D.out.2.2.2⟩
/-- A slice of rows that may be overwritten, in S. -/
def Rs2 (S : Nat → Prop) (w : World) (a : Ptr) (l : List Rw) : Prop :=
  l.length ≤ 1000000000 ∧ (∀ y ∈ l, RwF (fun b => S b ∧ blk a ≠ some b) w y) ∧ (l = [] ∨ ∃ b, a = some ⟨b, 0, none⟩ ∧ S b ∧ b < w.heap.size ∧ ∀ i, i < l.length → w.cell? ⟨b, i, none⟩ = some (l.getD i default).v)
theorem Rs2.keep {S : Nat → Prop} {w w' : World} {a : Ptr} {l : List Rw} (h : Rs2 S w a l) (hk : Stays S w w') : Rs2 S w' a l :=
  ⟨h.1, fun y hy => (h.2.1 y hy).keep ⟨hk.1, fun b hb => hk.2 b hb.1⟩, h.2.2.imp id fun ⟨b, e, hs, hlt, hc⟩ => ⟨b, e, hs, Nat.lt_of_lt_of_le hlt hk.1, fun i hi => (World.cell?_of_block (a := ⟨b, _, none⟩) (hk.2 b hs hlt)).trans (hc i hi)⟩⟩
theorem Rs2.mono {S S' : Nat → Prop} {w : World} {a : Ptr} {l : List Rw} (h : Rs2 S w a l) (hs : ∀ b, b < w.heap.size → S b → S' b) : Rs2 S' w a l :=
  ⟨h.1, fun y hy => (h.2.1 y hy).mono (fun b hb hS => ⟨hs b hb hS.1, hS.2⟩), h.2.2.imp id fun ⟨b, e, h1, h2, hc⟩ => ⟨b, e, hs b h2 h1, h2, hc⟩⟩
theorem Rs2.rs {S : Nat → Prop} {w : World} {a : Ptr} {l : List Rw} (h : Rs2 S w a l) : RsAt w a l :=
  ⟨h.1, fun y hy => (h.2.1 y hy).1.row, h.2.2.imp id fun ⟨b, e, _, hlt, hc⟩ => ⟨b, 0, e, hlt, fun i hi => by rw [Nat.zero_add]; exact hc i hi⟩⟩
open Classical in
noncomputable def rowsU (tr : Nat → Tre) (ts : List Tb) (M : ByteArray) : List (List Vl) := match tabI ts M with | none => [] | some k => (tr k).toL.map Prod.snd
set_option maxRecDepth 100000 in
set_option maxHeartbeats 3200000 in
theorem rowsP2_any (S : Nat → Prop) (p : Nat) (ca : Ptr) (cc : Nat) (ts : List Tb) (x : Sn) (M : ByteArray) (w : World) (h : Snp S w p ca cc ts x) (h6 : ts.length ≤ 6) (ht : TrsOk x.tr 200) :
    Calls Tryz.prog 11 #[.pointer (some ⟨p, 0, none⟩), .string M] w fun e w' => (∃ (a : Ptr) (cp m : Nat) (c : Int), e = .returned (.tuple #[.slice a m cp, .int .i64 c]) ∧ m ≤ cp ∧ m ≤ 1000 ∧ Hid (∃ done : List Rw, done.length = m ∧ Rs2 (fun b => w.heap.size ≤ b) w' a done ∧ done.map Rw.l = rowsU x.tr ts M)) ∧ w.grownBy w' none := by
  have c0 := cell_of_row _ _ 0 _ _ _ h.blk
  simp at c0
  have HN := Lib.hid (number_any S p ca cc ts M w h.cat c0)
  have HS := Lib.hid h
  have H6 := Lib.hid h6
  have HT := Lib.hid ht
  clear h c0 h6 ht
  go_enter Tryz.func11, Tryz.ntmps11
  go_wp2_with fail
  refine HN.out.mono ?_
  rintro e w2 ⟨⟨r, rfl, hr⟩, hg2⟩
  have HR := Lib.hid hr
  rcases hr with ⟨rfl, _⟩ | ⟨k, rfl, hk, _⟩
  · go_wp2_with fail
    refine bodyPost_ret (v := .tuple #[.slice none 0 0, .int .i64 14]) (by simp [results, Tryz.results11, go_sem]) rfl ?_
    refine ⟨⟨none, 0, 0, 14, rfl, Nat.le_refl _, by omega, Lib.hid ⟨[], rfl, ⟨by simp, by simp, .inl rfl⟩, ?_⟩⟩, hg2⟩
    unfold rowsU
    rcases HR.out.tabI with ⟨_, e⟩ | ⟨_, e, _⟩
    · rw [e]; rfl
    · omega
  · have hk6 : k < 6 := by have := H6.out; omega
    have hkk : ¬ (k : Int) < 0 := by omega
    have hk7 : (k : Int) < 6 := by omega
    have ck := hg2.cell (HS.out.tree hk6) (by simp)
    have HL := Lib.hid (rowsT2_any S (x.tr k) (x.ps k) w2 ((HS.out.tre k hk6).keep (.of hg2)) (HT.out k hk6).2.1 (by have := (HT.out k hk6).2.2; omega))
    have G2 := Lib.hid hg2
    clear hg2 hk
    go_wp2_with fail
    refine HL.out.mono ?_
    rintro e w3 ⟨⟨vo, done, rfl, h1, h2, h3⟩, hg3⟩
    go_wp2_with fail
    have hs := G2.out.size
    have hm : done.length ≤ 200 := by
      have e := congrArg List.length h3
      rw [List.length_map, List.length_map, ← Tr.n_toL] at e
      rw [e]; exact (HT.out k hk6).2.2
    have hU : done.map Rw.l = rowsU x.tr ts M := by
      unfold rowsU
      rcases HR.out.tabI with ⟨e, _⟩ | ⟨i, e, _, e2⟩
      · omega
      · obtain rfl : k = i := by omega
        rw [e2]; exact h3
    have key : ∃ (a : Ptr) (cp : Nat), vo = .slice a done.length cp ∧ done.length ≤ cp ∧ Rs2 (fun b => w.heap.size ≤ b) w3 a done := by
      rcases h1.2 with ⟨hv, h0⟩ | ⟨g, cap, cur, hv, hb, hg, hc, _⟩
      · have hd : done = [] := List.eq_nil_of_length_eq_zero h0
        subst hd
        exact ⟨none, 0, hv, Nat.le_refl _, by simp, by simp, .inl rfl⟩
      · have hlt := (h1.lt g (by rw [hv]; rfl)).2
        refine ⟨some ⟨g, 0, none⟩, cap, hv, hc, by omega, fun y hy => (h2 y hy).mono (fun b _ hb' => ⟨Nat.le_trans hs hb'.1, fun e => hb'.2 (by rw [hv]; exact e)⟩), .inr ⟨g, rfl, Nat.le_trans hs hb, hlt, fun i hi => ?_⟩⟩
        have cc := h1.cells (g := g) (by rw [hv]; rfl) i (done.getD i default).v (by simp [List.getD, hi])
        rw [add_atT, Nat.zero_add] at cc
        exact cc
    obtain ⟨a, cp, rfl, hcp, hrs⟩ := key
    refine bodyPost_ret (v := .tuple #[.slice a done.length cp, .int .i64 0]) (by simp [results, Tryz.results11, go_sem]) rfl ?_
    exact ⟨⟨a, cp, done.length, 0, rfl, hcp, by omega, Lib.hid ⟨done, rfl, hrs, hU⟩⟩, G2.out.trans hg3⟩
end Go.Proofs.YtnfpomjcofhppaaGreatDoor
