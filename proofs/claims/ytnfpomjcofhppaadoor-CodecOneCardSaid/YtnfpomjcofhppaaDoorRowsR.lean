/- The contract of the reader's rows. -/
import Derived.Test.YtnfpomjcofhppaaDoorRowR
import Derived.Test.YtnfpomjcofhppaaDoorGood4
namespace Go.Proofs.YtnfpomjcofhppaaDoor
open Go.RowKit

/-- A row of the call's own: in a block from B on, apart from out's. -/
def ROk (B : Nat) (w : World) (out : Value) (r : Rw) : Prop :=
  r.l.length ≤ 255 ∧ (∀ x ∈ r.l, x.fits) ∧ (r.l = [] ∨ ∃ b off, r.a = some ⟨b, off, none⟩ ∧ B ≤ b ∧ b < w.heap.size ∧ out.ownBlock ≠ some b ∧ ∀ i, i < r.l.length → w.cell? ⟨b, off + i * 3, none⟩ = some (.int .i64 (r.l.getD i default).k) ∧ w.cell? ⟨b, off + i * 3 + 1, none⟩ = some (.int .i64 (r.l.getD i default).n) ∧ w.cell? ⟨b, off + i * 3 + 2, none⟩ = some (.string (r.l.getD i default).s))
theorem ROk.keep {B : Nat} {w w' : World} {out out' : Value} {r : Rw} {row : Option Nat} (h : ROk B w out r) (hg : w.grownBy w' row) (hr : ∀ k, row = some k → k < B ∨ out.ownBlock = some k) (ho : out'.ownBlock = out.ownBlock ∨ ∃ k, out'.ownBlock = some k ∧ w.heap.size ≤ k) : ROk B w' out' r := by
  obtain ⟨h1, h2, h3⟩ := h
  refine ⟨h1, h2, ?_⟩
  rcases h3 with h3 | ⟨b, off, e, hB, hlt, hne, hc⟩
  · exact .inl h3
  · have hb : some b ≠ row := fun e => by
      rcases hr b e.symm with h | h
      · omega
      · exact hne h
    refine .inr ⟨b, off, e, hB, Nat.lt_of_lt_of_le hlt hg.size, ?_, fun i hi => ⟨hg.cell (hc i hi).1 hb, hg.cell (hc i hi).2.1 hb, hg.cell (hc i hi).2.2 hb⟩⟩
    rcases ho with h | ⟨k, h, hk⟩
    · rw [h]; exact hne
    · rw [h]; intro e; cases e; omega
theorem flat3 : ∀ (l : List Vl) (i : Nat), i < l.length → (l.flatMap vC)[i * 3]? = some (.int .i64 (l.getD i default).k) ∧ (l.flatMap vC)[i * 3 + 1]? = some (.int .i64 (l.getD i default).n) ∧ (l.flatMap vC)[i * 3 + 2]? = some (.string (l.getD i default).s)
  | x :: l, 0, _ => ⟨rfl, rfl, rfl⟩
  | x :: l, i + 1, h => by
    obtain ⟨a, b, c⟩ := flat3 l i (by simpa using h)
    have e : (x :: l).flatMap vC = .int .i64 x.k :: .int .i64 x.n :: .string x.s :: l.flatMap vC := rfl
    rw [e, show (i + 1) * 3 = i * 3 + 1 + 1 + 1 from by omega]
    exact ⟨a, b, c⟩
theorem OwnV.row {B : Nat} {w : World} {v out : Value} {l : List Vl} (h : OwnV B w v l) (hl : l.length ≤ 255) (hf : ∀ x ∈ l, x.fits) (ho : ∀ k, out.ownBlock = some k → k < B) : ∃ (a : Option Addr) (cap : Nat), v = .slice a l.length cap ∧ ROk B w out ⟨a, cap, l⟩ := by
  rcases h.2 with ⟨hv, h0⟩ | ⟨g, cap, cur, hv, _⟩
  · have hl0 : l = [] := List.length_eq_zero_iff.1 h0
    subst hl0
    exact ⟨none, 0, hv, by simp, hf, .inl rfl⟩
  · have hlt := World.ownsRow.lt h g (by rw [hv]; rfl)
    refine ⟨_, cap, hv, hl, hf, .inr ⟨g, 0, rfl, hlt.1, hlt.2, fun e => by have := ho g e; omega, fun i hi => ?_⟩⟩
    obtain ⟨a, b, c⟩ := flat3 l i hi
    have hc := World.ownsRow.cells h (g := g) (by rw [hv]; rfl)
    have h0 := hc _ _ a
    have h1 := hc _ _ b
    have h2 := hc _ _ c
    rw [add_at] at h0 h1 h2
    exact ⟨h0, by rw [show 0 + i * 3 + 1 = 0 + (i * 3 + 1) from by omega]; exact h1, by rw [show 0 + i * 3 + 2 = 0 + (i * 3 + 2) from by omega]; exact h2⟩
/-- A row's slice. -/
def Rw.v (r : Rw) : Value := .slice r.a r.l.length r.cap
def OwnR (B : Nat) (w : World) (v : Value) (l : List Rw) : Prop := w.ownsRow B 43 1 v l.length (l.map Rw.v) ∧ ∀ r ∈ l, ROk B w v r
theorem OwnR.nil (B : Nat) (w : World) : OwnR B w (.slice none 0 0) [] := ⟨World.ownsRow_nil w _ _ _, by simp⟩
theorem row_info : (Tryd.prog.info? 43).map (fun i => (i.zero, i.size, i.bytes)) = some (some (.slice none 0 0), 1, 24) := by kernel_rfl
theorem OwnR.more {B : Nat} {w : World} {v : Value} {l : List Rw} {x : Rw} {news : List Value} (hx : news = [x.v]) (h : w.ownsRow B 43 1 v (l.length + 1) (l.map Rw.v ++ news)) (ho : ∀ r ∈ l, ROk B w v r) (hxo : ROk B w v x) : OwnR B w v (l ++ [x]) := by
  refine ⟨?_, ?_⟩
  · rw [List.length_append, List.map_append, List.map_cons, List.map_nil, ← hx]
    exact h
  · intro r hr
    rw [List.mem_append, List.mem_singleton] at hr
    rcases hr with hr | rfl
    · exact ho r hr
    · exact hxo
theorem OwnR.keep {B g : Nat} {w w' : World} {v : Value} {l : List Rw} (h : OwnR B w v l) (hgr : w.grownBy w' (some g)) (hg : g < B) : OwnR B w' v l := by
  refine ⟨World.ownsRow.kept h.1 hgr ?_, fun r hr => (h.2 r hr).keep hgr (fun k hk => .inl (by cases hk; exact hg)) (.inl rfl)⟩
  cases hv : v.ownBlock with
  | none => exact .inl rfl
  | some k => exact .inr (fun e => by have := (World.ownsRow.lt h.1 k hv).1; cases e; omega)
theorem OwnR.low {B : Nat} {w : World} {v : Value} {l : List Rw} (h : OwnR B w v l) (hl : l.length ≤ 9223372036854775807) : ∃ (a : Option Addr) (cap : Nat), v = .slice a l.length cap ∧ RowsLow w.heap.size w a l := by
  have hrows : ∀ r ∈ l, RowLow w.heap.size w r.a r.l := fun r hr => by
    obtain ⟨h1, h2, h3⟩ := h.2 r hr
    refine ⟨by omega, h2, ?_⟩
    rcases h3 with h3 | ⟨b, off, e, _, hlt, _, hc⟩
    · exact .inl h3
    · exact .inr ⟨b, off, e, hlt, hc⟩
  rcases h.1.2 with ⟨hv, h0⟩ | ⟨g, cap, cur, hv, _⟩
  · have hl0 : l = [] := List.length_eq_zero_iff.1 h0
    subst hl0
    exact ⟨none, 0, hv, hl, hrows, .inl rfl⟩
  · have hlt := World.ownsRow.lt h.1 g (by rw [hv]; rfl)
    refine ⟨_, cap, hv, hl, hrows, .inr ⟨g, 0, rfl, hlt.2, fun i hi => ?_⟩⟩
    have hc := World.ownsRow.cells h.1 (g := g) (by rw [hv]; rfl) i (l.getD i default).v (by simp [List.getD, hi])
    rw [add_at] at hc
    exact hc
/-- How far rows are read. -/
def Rup (l : List UInt8) (q0 n i q : Nat) (cur : List (List Vl)) : Prop := readRs n (l.drop q0) = (readRs (n - i) (l.drop q)).map (fun x => (cur ++ x.1, (q - q0) + x.2)) ∧ q0 ≤ q ∧ q ≤ l.length ∧ cur.length = i
theorem Rup.start (l : List UInt8) (q0 n : Nat) (h : q0 ≤ l.length) : Rup l q0 n 0 q0 [] := by
  refine ⟨?_, Nat.le_refl _, h, rfl⟩
  cases readRs n (l.drop q0) <;> simp [*]
theorem Rup.none {l : List UInt8} {q0 n i q : Nat} {cur : List (List Vl)} (h : Rup l q0 n i q cur) (hi : i < n) (hv : readR (l.drop q) = Option.none) : readRs n (l.drop q0) = Option.none := by
  obtain ⟨m, hm⟩ : ∃ m, n - i = m + 1 := ⟨n - i - 1, by omega⟩
  rw [h.1, hm, readRs, hv]; rfl
theorem Rup.step {l : List UInt8} {q0 n i q k : Nat} {cur : List (List Vl)} {v : List Vl} (h : Rup l q0 n i q cur) (hi : i < n) (hv : readR (l.drop q) = some (v, k)) : Rup l q0 n (i + 1) (q + k) (cur ++ [v]) := by
  obtain ⟨h1, h2, h3, h4⟩ := h
  obtain ⟨m, hm⟩ : ∃ m, n - i = m + 1 := ⟨n - i - 1, by omega⟩
  have hk := (readR_some hv).2.2.2.1
  rw [List.length_drop] at hk
  refine ⟨?_, by omega, by omega, by simp [h4]⟩
  rw [h1, hm, readRs, hv, show n - (i + 1) = m from by omega]
  simp only [Option.map_map, List.drop_drop]
  congr 1
  funext x
  simp only [Function.comp, List.append_assoc, List.singleton_append]
  congr 1
  omega
theorem Rup.done {l : List UInt8} {q0 n q : Nat} {cur : List (List Vl)} (h : Rup l q0 n n q cur) : readRs n (l.drop q0) = some (cur, q - q0) := by
  rw [h.1, Nat.sub_self, readRs]; simp
/-- What rows answers: new memory. -/
def RowsPost (g : Nat) (a : Option Addr) (len cap p : Nat) (w : World) (r : Option (List (List Vl) × Nat)) (e : Ending) (w' : World) : Prop :=
  (∀ ls k, r = some (ls, k) → ∃ v rws, e = .returned (.tuple #[v, .nilIface]) ∧ rws.map Rw.l = ls ∧ OwnR w.heap.size w' v rws ∧ Goes g a len cap w (p + k) w') ∧ (r = none → ∃ x q, e = .returned (.tuple #[.slice none 0 0, x]) ∧ Flaw x ∧ Goes g a len cap w q w')
theorem cell_new1 (w : World) (v : Value) (T : TypeId) : ∀ j u, [v][j]? = some u → (w.alloc (.cells #[v] T)).cell? ((⟨w.heap.size, 0, none⟩ : Addr).add j) = some u := cell_one_new w v T

set_option maxRecDepth 100000 in
set_option maxHeartbeats 3200000 in
theorem rrows_any (G g : Nat) (a : Option Addr) (l : List UInt8) (cap p : Nat) (w : World) (hR : Rd g a l.length cap p w) (hb : BAt g w a l) (hp : p ≤ l.length) (hS : Sent G w) (hG : G ≤ g) (hcap : l.length ≤ cap) (hcapm : cap ≤ 9223372036854775807) (hlen : l.length ≤ 100000000) :
    Calls Tryd.prog 14 #[.pointer (some ⟨g, 0, none⟩)] w (RowsPost g a l.length cap p w (readL (l.drop p))) := by
  have hgs := hR.cells.2.2.2
  have HN := Lib.hid (count_any G g a l cap p 9223372036854775807 w hR hb hp hS hG (by omega))
  have HV := Lib.hid (fun q w1 (h : w.grownBy w1 (some g)) (hr : Rd g a l.length cap q w1) (hq : q ≤ l.length) => rrow_any G g a l cap q w1 hr (hb.keep h (by simp)) hq (hS.keep h hG) hG hcap hcapm)
  rw [readL_count _ (by rw [List.length_drop]; omega)]
  cases hr : readC 9223372036854775807 (l.drop p) with
  | none =>
    have Hr := Lib.hid hr
    clear hr hS hR hb
    go_enter Tryd.func14, Tryd.ntmps14
    go_wp2_with fail
    refine HN.out.mono ?_
    rintro e w1 ⟨_, h2⟩
    obtain ⟨x, q, rfl, ⟨y, t9, q9, rfl⟩, K⟩ := h2 Hr.out
    clear HN
    go_wp2_with fail
    go_ret2
    exact ⟨fun _ _ h => (by cases h), fun _ => ⟨_, _, rfl, ⟨_, _, _, rfl⟩, K⟩⟩
  | some x =>
    obtain ⟨n, k⟩ := x
    obtain ⟨_, hn1, hn2, hk1⟩ := readC_some hr
    rw [List.length_drop] at hn2
    have hnl : n ≤ 100000000 := by omega
    have HC : Hid (∀ e w1, CountPost g a l.length cap p w (readC 9223372036854775807 (l.drop p)) e w1 → e = .returned (.tuple #[.int .i64 n, .nilIface]) ∧ Goes g a l.length cap w (p + k) w1) := Lib.hid fun e w1 h => h.1 n k hr
    simp only [List.drop_drop]
    have hU : Hid (Rup l (p + k) n 0 (p + k) []) := Lib.hid (Rup.start l (p + k) n (by omega))
    obtain ⟨q0, hq0⟩ : ∃ q0, q0 = p + k := ⟨_, rfl⟩
    rw [← hq0] at HC hU ⊢
    have Hq0 := Lib.hid hq0
    obtain ⟨r, hr0⟩ : ∃ r, r = readRs n (l.drop q0) := ⟨_, rfl⟩
    rw [← hr0]
    have Hr := Lib.hid hr0
    obtain ⟨i0, hi, hz0, hz1, hz2⟩ := info_parts row_info
    clear hr hS hR hb hn2 hq0 hr0 hn1
    go_enter Tryd.func14, Tryd.ntmps14
    go_wp2_with fail
    refine HN.out.mono ?_
    rintro e w1 hpost
    obtain ⟨rfl, K⟩ := HC.out _ _ hpost
    have HK := Lib.hid K
    clear hpost K
    go_wp2_with fail
    go_loopw [6, 18] (fun v i wr => ∃ (j q : Nat) (cur : List Rw), i = .int .i64 j ∧ j ≤ n ∧ cur.length ≤ n ∧ q ≤ l.length ∧ Hid (Rup l q0 n j q (cur.map Rw.l)) ∧ Hid (OwnR w.heap.size wr v cur) ∧ Hid (Goes g a l.length cap w q wr)) (fun _ i _ => n - (intOf i).toNat)
    case atStart => exact ⟨0, q0, [], rfl, Nat.zero_le _, Nat.zero_le _, hU.out.2.2.1, hU, Lib.hid (OwnR.nil _ _), HK⟩
    case round =>
      obtain ⟨j, q, cur, rfl, hj, hcl, hql, U, O, K⟩ := hrel
      by_cases hlt : j < n
      · cases hv : readR (l.drop q) with
        | none =>
          have Hno : Hid (r = none) := Lib.hid (by rw [Hr.out]; exact U.out.none hlt hv)
          have Hv := Lib.hid hv
          clear hv
          go_wp2_with fail
          refine (HV.out _ _ K.out.1 K.out.2 hql).mono ?_
          rintro e w2 ⟨_, h2⟩
          obtain ⟨x, q2, rfl, ⟨y, t9, q9, rfl⟩, K2⟩ := h2 Hv.out
          have HK2 := Lib.hid (K.out.trans K2)
          clear h2 K2
          go_wp2_with fail
          go_ret2
          exact ⟨fun _ _ h => (by rw [Hno.out] at h; cases h), fun _ => ⟨_, _, rfl, ⟨_, _, _, rfl⟩, HK2.out⟩⟩
        | some x =>
          obtain ⟨v, kv⟩ := x
          have U2 := Lib.hid (U.out.step hlt hv)
          obtain ⟨_, v255, _, _, vgood⟩ := readR_some hv
          have Hv := Lib.hid hv
          have hfit := Lib.hid (fun x hx => (vgood x hx).2)
          have hcn : cur.length + 1 ≤ n := by have := U2.out.2.2.2; simp at this; omega
          have hq2 : q + kv ≤ l.length := U2.out.2.2.1
          clear hv vgood
          go_wp2_with fail
          refine (HV.out _ _ K.out.1 K.out.2 hql).mono ?_
          rintro e w2 ⟨h1, _⟩
          obtain ⟨u, rfl, ov, K2⟩ := h1 v kv Hv.out
          have HK2 := Lib.hid (K.out.trans K2)
          have O2 := Lib.hid (O.out.keep K2.1 hgs)
          have hs2 : w.heap.size ≤ w2.heap.size := HK2.out.1.size
          obtain ⟨ra, rc, rfl, ro⟩ := ov.row (out := u6) v255 hfit.out (fun k hk => (World.ownsRow.lt O.out.1 k hk).2)
          have hss : w.heap.size ≤ wr.heap.size := K.out.1.size
          have RO : Hid (ROk w.heap.size w2 u6 ⟨ra, rc, v⟩) := Lib.hid ⟨ro.1, ro.2.1, ro.2.2.imp id (fun ⟨b, off, h1, h2, h3⟩ => ⟨b, off, h1, by omega, h3⟩)⟩
          clear h1 K2 ov ro
          go_wp2_with (at_builtin; refine wpList_append_own_at _ rfl _ _ 24 rfl w.heap.size 43 i0 (.slice none 0 0) 1 24 Tryd.underlying24 hi hz0 hz1 hz2 rfl (by decide) _ _ _ rfl (World.ownsRow.alloc O2.out.1 _) ⟨w2.heap.size, 0, none⟩ 1 1 [.slice ra v.length rc] rfl rfl ?c1 ?c2 ?c3 ?c4 ?c5 ?_)
          case c1 => exact cell_new1 _ _ _
          case c2 => intro u hu; simp at hu; subst hu; rfl
          case c3 => unfold maxLen; omega
          case c4 => omega
          case c5 => simp; omega
          intro v' w3 hown' hgrow _ hat
          have hat2 : v'.ownBlock = u6.ownBlock ∨ ∃ k, v'.ownBlock = some k ∧ w2.heap.size ≤ k := hat.imp id (fun h => ⟨_, h, by simp⟩)
          have hgr2 := (World.grownBy_alloc w2 (.cells #[.slice ra v.length rc] 43) _).trans hgrow
          have keepR : ∀ r, ROk w.heap.size w2 u6 r → ROk w.heap.size w3 v' r := fun r hr => hr.keep hgr2 (fun k hk => .inr hk) hat2
          have O3 := Lib.hid (OwnR.more (x := ⟨ra, rc, v⟩) rfl hown' (fun r hr => keepR r (O2.out.2 r hr)) (keepR _ RO.out))
          have HK3 := Lib.hid (HK2.out.far hgr2 (fun j hj => (World.ownsRow.lt O2.out.1 j hj).1) hgs)
          clear hown' hgrow hat hat2 hgr2 keepR
          go_wp2_with fail
          go_roundw
          case rel => exact ⟨j + 1, q + kv, cur ++ [⟨ra, rc, v⟩], by go_num, by omega, by simpa using hcn, hq2, Lib.hid (by simpa using U2.out), O3, HK3⟩
          case measure => simp [intOf]; omega
      · obtain rfl : j = n := by omega
        have Hyes : Hid (r = some (cur.map Rw.l, q - q0)) := Lib.hid (by rw [Hr.out]; exact U.out.done)
        go_wp2_with fail
        go_ret2
        refine ⟨fun vs m h => ?_, fun h => (by rw [Hyes.out] at h; cases h)⟩
        rw [Hyes.out] at h
        simp only [Option.map_some, Option.some.injEq, Prod.mk.injEq] at h
        obtain ⟨rfl, rfl⟩ := h
        refine ⟨_, cur, rfl, rfl, O.out, ?_⟩
        have e : p + (k + (q - q0)) = q := by have := U.out.2.1; rw [Hq0.out] at this ⊢; omega
        rw [e]
        exact K.out
end Go.Proofs.YtnfpomjcofhppaaDoor
