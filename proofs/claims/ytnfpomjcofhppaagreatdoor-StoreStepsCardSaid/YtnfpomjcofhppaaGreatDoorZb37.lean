/- A snapshot's Catalog and Len. Mathematics of StoreSteps: the kept commits and snapshots hang together. A snapshot's Rows and Get. -/
import Derived.Test.YtnfpomjcofhppaaGreatDoorZb36
import Derived.Test.YtnfpomjcofhppaaGreatDoorZb32
namespace Go.Proofs.YtnfpomjcofhppaaGreatDoor
open Go.RowKit

theorem Snp.tree {S : Nat → Prop} {w : World} {p : Nat} {ca : Ptr} {cc : Nat} {ts : List Tb} {x : Sn} (h : Snp S w p ca cc ts x) {k : Nat} (hk : k < 6) : w.cell? ⟨p, 2 + k, none⟩ = some (.pointer (x.ps k)) := by
  obtain rfl | rfl | rfl | rfl | rfl | rfl : k = 0 ∨ k = 1 ∨ k = 2 ∨ k = 3 ∨ k = 4 ∨ k = 5 := by omega
  · exact cell_of_row _ _ 2 _ _ _ h.blk
  · exact cell_of_row _ _ 3 _ _ _ h.blk
  · exact cell_of_row _ _ 4 _ _ _ h.blk
  · exact cell_of_row _ _ 5 _ _ _ h.blk
  · exact cell_of_row _ _ 6 _ _ _ h.blk
  · exact cell_of_row _ _ 7 _ _ _ h.blk
end Go.Proofs.YtnfpomjcofhppaaGreatDoor
namespace Go.Proofs.YtnfpomjcofhppaaGreatDoor
open Go.RowKit

theorem doM_few {ts : List Tb} {s s' : Ms} {o : Om} (h : doM ts s o = .ok s') : s'.ch.length ≤ s.ch.length + 1 := by
  unfold doM at h
  split at h
  · cases h
  · split at h
    · split at h
      · cases h
      · cases h; simp
    · split at h
      · cases h; simp
      · split at h
        · cases h; simp
        · cases h; simp
theorem opsM_few {ts : List Tb} : ∀ (l : List Om) (s s' : Ms), opsM ts s l = .ok s' → s'.ch.length ≤ s.ch.length + l.length
  | [], s, s', h => by cases h; simp
  | o :: l, s, s', h => by
    simp only [opsM] at h
    cases hs : doM ts s o with
    | error c => rw [hs] at h; cases h
    | ok s2 =>
      rw [hs] at h
      have h1 := doM_few hs
      have h2 := opsM_few l s2 s' h
      simp; omega
/-- A commit changes at most twenty rows. -/
theorem commitM_few {ts : List Tb} {tr : Nat → Tre} {l : List Om} {ms : Ms} (h : commitM ts tr l = .ok ms) : ms.ch.length ≤ 20 := by
  unfold commitM at h
  split at h
  · cases h
  · split at h
    · cases h
    · cases hs : opsM ts ⟨tr, [], []⟩ l with
      | error c => rw [hs] at h; cases h
      | ok s' =>
        rw [hs] at h
        simp only at h
        have h2 := opsM_few l _ _ hs
        split at h
        · cases h
        · cases h
          simp at h2
          omega
structure HistC (v : Int) (ts : List Tb) (PC : List (Int × List (ByteArray × List Vl × List Vl))) (PS : List (Int × (Nat → Tre))) : Prop where
  len : (PC.length : Int) = min v 32
  two : PS.length = PC.length + 1
  inv : ∀ t ∈ PS, TabInv ts t.2
  vers : ∀ (i : Nat) c, PC[i]? = some c → c.1 = v - PC.length + 1 + i
  link : ∀ (i : Nat) c t t', PC[i]? = some c → PS[i]? = some t → PS[i + 1]? = some t' → stepL ts (fun j => (t.2 j).toL) c.2 = some (fun j => (t'.2 j).toL) ∧ c.2.length ≤ 20 ∧ ∀ x ∈ c.2, x.2.1 ≠ x.2.2 ∧ x.2.2.all Vl.good = true
theorem HistC.next {v : Int} {ts : List Tb} {PC : List (Int × List (ByteArray × List Vl × List Vl))} {PS : List (Int × (Nat → Tre))} (h : HistC v ts PC PS) (hv : 0 ≤ v) {c : Int × List (ByteArray × List Vl × List Vl)} {t' : Int × (Nat → Tre)} (hc : c.1 = v + 1) (ht' : TabInv ts t'.2)
    (hl : ∀ t, PS[PC.length]? = some t → stepL ts (fun j => (t.2 j).toL) c.2 = some (fun j => (t'.2 j).toL) ∧ c.2.length ≤ 20 ∧ ∀ x ∈ c.2, x.2.1 ≠ x.2.2 ∧ x.2.2.all Vl.good = true) :
    HistC (v + 1) ts ((PC ++ [c]).drop (PC.length + 1 - 32)) ((PS ++ [t']).drop (PC.length + 1 - 32)) := by
  have h1 := h.len
  have h2 := h.two
  refine ⟨by simp; omega, by simp; omega, fun t ht => ?_, fun i c2 hi => ?_, fun i c2 t t2 hi ht ht2 => ?_⟩
  · rcases List.mem_append.1 (List.mem_of_mem_drop ht) with ht | ht
    · exact h.inv t ht
    · rw [List.mem_singleton.1 ht]; exact ht'
  · rw [List.getElem?_drop] at hi
    have hlen : ((PC ++ [c]).drop (PC.length + 1 - 32)).length = PC.length + 1 - (PC.length + 1 - 32) := by simp
    rw [hlen]
    rcases Nat.lt_or_ge (PC.length + 1 - 32 + i) PC.length with hk | hk
    · rw [List.getElem?_append_left hk] at hi
      rw [h.vers _ _ hi]
      omega
    · rw [List.getElem?_append_right hk] at hi
      have hz : PC.length + 1 - 32 + i - PC.length = 0 := by
        rcases Nat.eq_zero_or_pos (PC.length + 1 - 32 + i - PC.length) with e | e
        · exact e
        · rw [List.getElem?_eq_none (by simp; omega)] at hi; cases hi
      rw [hz] at hi
      cases hi
      rw [hc]; omega
  · rw [List.getElem?_drop] at hi ht ht2
    rcases Nat.lt_or_ge (PC.length + 1 - 32 + i) PC.length with hk | hk
    · rw [List.getElem?_append_left hk] at hi
      rw [List.getElem?_append_left (by omega)] at ht
      rw [List.getElem?_append_left (by omega)] at ht2
      exact h.link _ _ _ _ hi ht (by rw [← ht2]; congr 1)
    · rw [List.getElem?_append_right hk] at hi
      have hz : PC.length + 1 - 32 + i - PC.length = 0 := by
        rcases Nat.eq_zero_or_pos (PC.length + 1 - 32 + i - PC.length) with e | e
        · exact e
        · rw [List.getElem?_eq_none (by simp; omega)] at hi; cases hi
      have he : PC.length + 1 - 32 + i = PC.length := by omega
      rw [hz] at hi
      have hi' : c = c2 := by simpa using hi
      subst hi'
      rw [he, List.getElem?_append_left (by omega)] at ht
      rw [show PC.length + 1 - 32 + (i + 1) = PS.length by omega, List.getElem?_append_right (Nat.le_refl _), Nat.sub_self] at ht2
      have ht2' : t' = t2 := by simpa using ht2
      subst ht2'
      exact hl t ht
def HistS (s : Stm) : Prop := HistC s.v s.ts (s.cs.map Cm.p) (s.sn.map Sn.p)
theorem Went.hist {B : Nat} {s s' : Stm} {ms : Ms} {w w0 w' : World} {l : List Om} (h : Went B s s' ms w w') (hs : SAt B w0 s) (hh : HistS s) (hm : commitM s.ts s.top.tr l = .ok ms) : HistS s' := by
  have hk := hs.kept
  have e2 : s.sn[s.cs.length]? = some s.top := by
    unfold Stm.top
    rw [List.getD_eq_getElem?_getD, show s.sn.length - 1 = s.cs.length by omega, List.getElem?_eq_getElem (by omega)]
    rfl
  have hti : TabInv s.ts s.top.tr := hh.inv s.top.p (List.mem_map_of_mem hs.topMem)
  obtain ⟨f1, f2, f3⟩ := commitM_step hs.ok hti hm
  have hn := HistC.next (c := (s.v + 1, ms.ch)) (t' := (s.v + 1, ms.tr)) hh hs.v0 rfl f2 (fun t ht => by
    rw [List.length_map, List.getElem?_map, e2] at ht
    have : s.top.p = t := by simpa using ht
    subst this
    exact ⟨f1, commitM_few hm, f3⟩)
  unfold HistS
  rw [h.ts, h.v, h.cs, h.sn]
  rw [List.length_map] at hn
  exact hn
theorem HistS.new {s : Stm} (hv : s.v = 0) (hc : s.cs = []) (hn : s.sn = [default]) : HistS s := by
  unfold HistS
  rw [hv, hc, hn]
  refine ⟨by first | rfl | decide | (simp; omega), rfl, fun t ht => ?_, fun i c h => by simp at h, fun i c t t' h => by simp at h⟩
  have e : t = (default : Sn).p := by simpa using ht
  subst e
  exact fun i _ => ⟨List.Pairwise.nil, fun x hx => by simp [Sn.p, default, Tr.toL] at hx⟩
end Go.Proofs.YtnfpomjcofhppaaGreatDoor
namespace Go.Proofs.YtnfpomjcofhppaaGreatDoor
open Go.RowKit

set_option maxRecDepth 100000 in
set_option maxHeartbeats 3200000 in
theorem rowsP_any (S : Nat → Prop) (p : Nat) (ca : Ptr) (cc m : Nat) (ts : List Tb) (x : Sn) (M : ByteArray) (w : World) (h : Snp S w p ca cc ts x) (h6 : ts.length ≤ 6) (ht : TrsOk x.tr m) (hm : m ≤ 1000) :
    Calls Tryz.prog 11 #[.pointer (some ⟨p, 0, none⟩), .string M] w fun e w' => ((e = .returned (.tuple #[.slice none 0 0, .int .i64 14]) ∧ TxIs M ts (-1)) ∨ ∃ (k : Nat) (vo : Value) (done : List Rw), k < 6 ∧ e = .returned (.tuple #[vo, .int .i64 0]) ∧ TxIs M ts k ∧ w'.ownsRow w.heap.size 55 1 vo done.length (done.map Rw.v) ∧ (∀ y ∈ done, RwS (fun b => w.heap.size ≤ b) w' y.a y.l) ∧ done.map Rw.l = (x.tr k).toL.map Prod.snd) ∧ w.grownBy w' none := by
  have c0 := cell_of_row _ _ 0 _ _ _ h.blk
  simp at c0
  have HN := Lib.hid (number_any S p ca cc ts M w h.cat c0)
  have HS := Lib.hid h
  have H6 := Lib.hid h6
  have HT := Lib.hid ht
  clear h c0 h6 ht
  go_enter Tryz.func11, Tryz.ntmps11
  go_wp2_with fail
  refine HN.out.mono ?_
  rintro e w2 ⟨⟨r, rfl, hr⟩, hg2⟩
  have HR := Lib.hid hr
  rcases hr with ⟨rfl, _⟩ | ⟨k, rfl, hk, _⟩
  · go_wp2_with fail
    refine bodyPost_ret (v := .tuple #[.slice none 0 0, .int .i64 14]) (by simp [results, Tryz.results11, go_sem]) rfl ?_
    exact ⟨.inl ⟨rfl, HR.out⟩, hg2⟩
  · have hk6 : k < 6 := by have := H6.out; omega
    have hkk : ¬ (k : Int) < 0 := by omega
    have hk7 : (k : Int) < 6 := by omega
    have ck := hg2.cell (HS.out.tree hk6) (by simp)
    have HL := Lib.hid (rowsT_any S (x.tr k) (x.ps k) w2 ((HS.out.tre k hk6).keep (.of hg2)) (HT.out k hk6).2.1 (by have := (HT.out k hk6).2.2; omega))
    have G2 := Lib.hid hg2
    clear hg2 hk hm
    go_wp2_with fail
    refine HL.out.mono ?_
    rintro e w3 ⟨⟨vo, done, rfl, h1, h2, h3⟩, hg3⟩
    go_wp2_with fail
    have hs := G2.out.size
    refine bodyPost_ret (v := .tuple #[vo, .int .i64 0]) (by simp [results, Tryz.results11, go_sem]) rfl ?_
    exact ⟨.inr ⟨k, vo, done, hk6, rfl, HR.out, ⟨h1.1, h1.2.imp id fun ⟨g, cp, cu, e1, e2, e3⟩ => ⟨g, cp, cu, e1, Nat.le_trans hs e2, e3⟩⟩, fun y hy => (h2 y hy).mono (fun b _ hb => Nat.le_trans hs hb), h3⟩, G2.out.trans hg3⟩
end Go.Proofs.YtnfpomjcofhppaaGreatDoor
