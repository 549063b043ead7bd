/- The store's New at a catalog. Mathematics: commits on the document's example, counted. The store's Version, Now, Since, Catalog; a snapshot in memory and its Version. -/
import Derived.Test.YtnfpomjcofhppaaGreatDoorZb12
import Derived.Test.YtnfpomjcofhppaaGreatDoorZb34
import Derived.Test.YtnfpomjcofhppaaGreatDoorZb28
import Derived.Test.YtnfpomjcofhppaaGreatDoorZb31
import Derived.Test.YtnfpomjcofhppaaGreatDoorZb35
namespace Go.Proofs.YtnfpomjcofhppaaGreatDoor
open Go.RowKit

theorem p_at {l l' : List Tb} (h : l'.map Tb.p = l.map Tb.p) (i : Nat) : (l'.getD i default).p = (l.getD i default).p := by
  have e : (l'.map Tb.p)[i]? = (l.map Tb.p)[i]? := by rw [h]
  rw [List.getElem?_map, List.getElem?_map] at e
  unfold List.getD
  cases h1 : l'[i]? <;> cases h2 : l[i]? <;> simp_all
/-- A copy of a list that is right is a catalog. -/
theorem catOk_of {l l' : List Tb} (hr : RightG l) (hp : l'.map Tb.p = l.map Tb.p) (hc : ∀ t ∈ l', t.l.length ≤ t.cap) : CatOk l' := by
  have hlen : l'.length = l.length := by have := congrArg List.length hp; simpa using this
  have e := p_at hp
  have en : ∀ i, (l'.getD i default).n = (l.getD i default).n := fun i => congrArg (·.1) (e i)
  have el : ∀ i, (l'.getD i default).l = (l.getD i default).l := fun i => congrArg (·.2.1) (e i)
  have ek : ∀ i, (l'.getD i default).k = (l.getD i default).k := fun i => congrArg (·.2.2) (e i)
  refine ⟨?_, fun i hi => ?_, fun i hi => ?_, fun i hi j hj => ?_⟩
  · rcases Nat.lt_or_ge 6 l'.length with h | h
    · have := (hr 6 (by omega)).1.1; omega
    · exact h
  · obtain ⟨⟨_, _, h8⟩, ⟨_, k1, k2, _⟩, _⟩ := hr i (by omega)
    have := hc _ (tb_mem hi)
    rw [el, ek]
    rw [el] at this
    exact ⟨k1, k2, h8, this⟩
  · rw [en]; exact (hr i (by omega)).2.1.1
  · have h := (hr i (by omega)).2.2.1 j (by rw [List.length_take]; omega)
    have e : (l.take i).getD j default = l.getD j default := by simp [List.getD, hj]
    rw [e] at h
    rw [en, en]; exact h
def newStm (b J g cc : Nat) (ca : Ptr) (ts : List Tb) : Stm := ⟨b, J, none, 0, some ⟨g, 0, none⟩, 1, ca, cc, ts, 0, [], [default]⟩
theorem new_sat (B J cc : Nat) (ca : Ptr) (ts : List Tb) (w3 w4 : World) (h3 : JS (fun _ => False) w3 J 32 0 none 0 []) (hB : B ≤ J) (hg : w3.grownBy w4 none) (ht : TbsS (fun b => w3.heap.size ≤ b) w4 ca ts) (hc : CatOk ts) (hcc : ts.length ≤ cc) :
    SAt B ((w4.alloc (.cells #[.slice ca ts.length cc, .int .i64 0, .pointer none, .pointer none, .pointer none, .pointer none, .pointer none, .pointer none] 82)).alloc (.cells #[.pointer (some ⟨J, 0, none⟩), .slice (some ⟨w4.heap.size, 0, none⟩) 1 1] 96)) (newStm (w4.heap.size + 1) J w4.heap.size cc ca ts) := by
  generalize ho1 : Obj.cells #[.slice ca ts.length cc, .int .i64 0, .pointer none, .pointer none, .pointer none, .pointer none, .pointer none, .pointer none] 82 = o1
  generalize ho2 : Obj.cells #[.pointer (some ⟨J, 0, none⟩), .slice (some ⟨w4.heap.size, 0, none⟩) 1 1] 96 = o2
  have hJ3 := h3.jn.lt
  have hsz := hg.size
  have hB' : B ≤ w4.heap.size := by omega
  have s5 : (w4.alloc o1).heap.size = w4.heap.size + 1 := by simp
  have s6 : ((w4.alloc o1).alloc o2).heap.size = w4.heap.size + 2 := by simp
  have g5 := World.grownBy_alloc w4 o1 none
  have g6 := World.grownBy_alloc (w4.alloc o1) o2 none
  have gg := g5.trans g6
  have hb : ((w4.alloc o1).alloc o2).heap[w4.heap.size + 1]? = some o2 := by rw [← s5]; exact heap_alloc_new _ _
  have hs : ((w4.alloc o1).alloc o2).heap[w4.heap.size]? = some o1 := (g6.block _ (by omega) (by simp)).trans (heap_alloc_new _ _)
  have hs := hs.trans (congrArg some ho1.symm)
  have hM : ∀ k, (newStm (w4.heap.size + 1) J w4.heap.size cc ca ts).M k → k = J ∨ k = w4.heap.size + 1 ∨ k = w4.heap.size := fun k hk => by
    rcases hk with h | h | h | h
    · exact .inl h
    · simp [newStm, bk] at h
    · exact .inr (.inl h)
    · exact .inr (.inr (by simpa [newStm, bk] using h.symm))
  refine ⟨by show ((w4.alloc o1).alloc o2).heap[w4.heap.size + 1]? = _; rw [hb, ← ho2]; rfl, ⟨((h3.keepG hg).keepG gg).jn, Win.nil _ _, by simp [newStm], by simp [newStm, bk], ?_, by simp [newStm, bk], ?_, by simp [newStm]⟩, ⟨rfl, Nat.le_refl _, by show 1 ≤ maxLen; decide, ?_, .inr ⟨_, 0, rfl, ?_, ?_, fun o => by simp [World.frozen?, hs]⟩⟩, ?_, ?_, by simp [newStm], rfl, ?_, hc, hcc, ?_, ?_, ?_, Int.le_refl _, by show (0 : Int) ≤ 100000; decide⟩
  · intro h
    rcases h with h | h
    · simp only [newStm] at h; omega
    · simp [newStm, bk] at h; omega
  · intro k h
    rcases h with h | h
    · simp only [newStm] at h; omega
    · simp [newStm, bk] at h; omega
  · intro k h
    simp [newStm, bk] at h; omega
  · intro j u hj
    rw [Nat.zero_add, cell_of_row _ _ _ _ _ _ hs]
    simpa [newStm, snC, default] using hj
  · intro j hj
    rw [Nat.zero_add, cell_of_row _ _ _ _ _ _ hs, Array.getElem?_eq_getElem (by have : j < 1 * 8 := hj; simp; omega)]
    rfl
  · refine (ht.mono fun b hb1 hb2 hm => ?_).keep (.of gg)
    rcases hM b hm with h | h | h <;> omega
  · intro x hx i hi
    simp only [newStm, List.mem_singleton] at hx
    subst hx
    rfl
  · intro i hi
    simp only [newStm, List.length_singleton] at hi
    obtain rfl : i = 0 := by omega
    rfl
  · intro x hx i hi
    simp only [newStm, List.mem_singleton] at hx
    subst hx
    exact ⟨trivial, List.Pairwise.nil, Nat.zero_le _⟩
  · simp [newStm, bk]
  · intro k hk
    rcases hM k hk with h | h | h <;> omega
set_option maxRecDepth 100000 in
set_option maxHeartbeats 1600000 in
theorem newS_ok (a : Option Addr) (cap G : Nat) (S : Nat → Prop) (l : List Tb) (w : World) (h : TbsS S w a l) (hcap : l.length ≤ cap) (hcs : ∀ t ∈ l, t.l.length ≤ t.cap) (hw : WhyG w) (hE : ErrT G w) (hr : RightG l) :
    Calls Tryz.prog 17 #[.slice a l.length cap] w fun e w' => (∃ s : Stm, e = .returned (.tuple #[.pointer (some ⟨s.b, 0, none⟩), .int .i64 0]) ∧ SAt w.heap.size w' s ∧ s.v = 0 ∧ s.cs = [] ∧ s.sn = [default] ∧ s.ts.map Tb.p = l.map Tb.p) ∧ w.grownBy w' none := by
  have hl : l.length ≤ 100 := by
    rcases Nat.lt_or_ge 6 l.length with h | h
    · have := (hr 6 h).1.1; omega
    · omega
  have hcl : ∀ t ∈ l, t.l.length ≤ 100 := fun t ht => by
    obtain ⟨i, hi, rfl⟩ := List.getElem_of_mem ht
    have := (hr i hi).1.2.2
    simp only [List.getD, List.getElem?_eq_getElem hi, Option.getD_some] at this
    omega
  have HC : Hid (Calls Tryz.prog 36 #[.slice a l.length cap] w fun e w' => e = .returned (.tuple #[.int .i64 0, .int .i64 0]) ∧ w.grownBy w' none) := Lib.hid ((check_any a cap G l w h.tabs hcap hcs hw hE).mono fun e w' h => ⟨by
    rcases h.1 with ⟨_, h⟩ | ⟨k, y, h, _⟩
    · exact h
    · exact absurd hr h.not, h.2⟩)
  have HQ := Lib.hid hr
  have HP := Lib.hid (fun W (hW : w.grownBy W none) => copiedT_any S a cap l W (h.keep (.of hW)) hl hcl)
  have HJ := Lib.hid newJ_any
  have Hl := Lib.hid hl
  clear h hl hcl hcap hcs hw hE hr
  go_enter Tryz.func17, Tryz.ntmps17
  go_wp2_with fail
  refine HC.out.mono ?_
  rintro e w2 ⟨rfl, hg⟩
  have K2 := Lib.hid hg
  clear hg
  go_wp2_with fail
  refine (HJ.out _).mono ?_
  rintro e w3 ⟨⟨J, rfl, hJ, hjs⟩, hg⟩
  have K3 := Lib.hid (K2.out.trans hg)
  have J3 := Lib.hid hjs
  have JE := Lib.hid hJ
  have KJ := Lib.hid hg
  clear hg hjs hJ
  go_wp2_with fail
  refine (HP.out _ K3.out).mono ?_
  rintro e w4 ⟨⟨a', cap', l', rfl, e1, e2, e3, e4, e5⟩, hg⟩
  have K4 := Lib.hid hg
  have P1 := Lib.hid e1
  have P2 := Lib.hid e2
  have P3 := Lib.hid e3
  have P4 := Lib.hid e4
  have P5 := Lib.hid e5
  clear hg e1 e2 e3 e4 e5
  go_wp2_with fail
  go_ret2
  refine ⟨⟨newStm (w4.heap.size + 1) J w4.heap.size cap' a' l', rfl, ?_, rfl, rfl, rfl, P3.out⟩, K3.out.trans (K4.out.trans ((World.grownBy_alloc _ _ _).trans (World.grownBy_alloc _ _ _)))⟩
  rw [← P1.out]
  exact new_sat w.heap.size J cap' a' l' w3 w4 J3.out (by rw [JE.out]; exact K2.out.size) K4.out P4.out (catOk_of HQ.out P3.out P5.out) (by rw [P1.out]; exact P2.out)
end Go.Proofs.YtnfpomjcofhppaaGreatDoor
namespace Go.Proofs.YtnfpomjcofhppaaGreatDoor
open Go.RowKit

theorem commit_one {ts : List Tb} {tr : Nat → Tre} {o : Om} {s : Ms} (hd : doM ts ⟨tr, [], []⟩ o = .ok s) (hf : ¬ ∃ i, i < 6 ∧ 200 < (s.tr i).n) : commitM ts tr [o] = .ok s := by
  unfold commitM
  simp only [opsM, hd]
  simp [hf]
theorem commit_one_full {ts : List Tb} {tr : Nat → Tre} {o : Om} {s : Ms} (hd : doM ts ⟨tr, [], []⟩ o = .ok s) (hf : ∃ i, i < 6 ∧ 200 < (s.tr i).n) : commitM ts tr [o] = .error 3 := by
  unfold commitM
  simp only [opsM, hd]
  rw [if_pos hf]
  simp
theorem commit_one_err {ts : List Tb} {tr : Nat → Tre} {o : Om} {c : Int} (hd : doM ts ⟨tr, [], []⟩ o = .error c) : commitM ts tr [o] = .error c := by
  unfold commitM
  simp only [opsM, hd]
  simp
theorem commit_two {ts : List Tb} {tr : Nat → Tre} {o1 o2 : Om} {s1 s2 : Ms} (h1 : doM ts ⟨tr, [], []⟩ o1 = .ok s1) (h2 : doM ts s1 o2 = .ok s2) (hf : ¬ ∃ i, i < 6 ∧ 200 < (s2.tr i).n) : commitM ts tr [o1, o2] = .ok s2 := by
  unfold commitM
  simp only [opsM, h1, h2]
  simp [hf]
structure Xs (tr : Nat → Tre) (k : Nat) (f : Int → Option (List Vl)) : Prop where
  srt : Tr.Sorted rowsOrd (tr 0).toL
  n : (tr 0).n = k
  lk : ∀ m, lookL [viV m] (tr 0).toL = f m
  rest : ∀ i, 1 ≤ i → i < 6 → (tr i).n ≤ 200
def updX (f : Int → Option (List Vl)) (n : Int) (r : Option (List Vl)) : Int → Option (List Vl) := fun m => if m = n then r else f m
theorem viV_eq {a b : Int} : ([viV a] : List Vl) = [viV b] ↔ a = b := ⟨fun h => by simpa [viV] using h, fun h => by rw [h]⟩
section
variable {tr : Nat → Tre} {k : Nat} {f : Int → Option (List Vl)}
theorem Xs.rest' (h : Xs tr k f) (t : Tre) : ∀ i, 1 ≤ i → i < 6 → (setT tr 0 t i).n ≤ 200 := fun i h1 h6 => by
  unfold setT
  rw [if_neg (by omega)]
  exact h.rest i h1 h6
theorem Xs.putL (h : Xs tr k f) (n : Int) (s : ByteArray) : ∀ m, lookL [viV m] (setT tr 0 (Tr.put rowsOrd [viV n] (rX n s) (tr 0)) 0).toL = updX f n (some (rX n s)) m := fun m => by
  unfold setT updX
  rw [if_pos rfl, look_put h.srt]
  by_cases e : m = n
  · rw [if_pos e, if_pos (viV_eq.2 e)]
  · rw [if_neg e, if_neg (fun e2 => e (viV_eq.1 e2)), h.lk]
theorem Xs.put_new (h : Xs tr k f) (n : Int) (s : ByteArray) (hn : f n = none) : Xs (setT tr 0 (Tr.put rowsOrd [viV n] (rX n s) (tr 0))) (k + 1) (updX f n (some (rX n s))) :=
  ⟨by unfold setT; rw [if_pos rfl, Tr.put_toL ro_ord _ _ _ h.srt]; exact Tr.putL_sorted ro_ord h.srt, by unfold setT; rw [if_pos rfl, n_put_new h.srt _ (by rw [h.lk]; exact hn), h.n], h.putL n s, h.rest' _⟩
theorem Xs.put_old (h : Xs tr k f) (n : Int) (s : ByteArray) {r : List Vl} (hn : f n = some r) : Xs (setT tr 0 (Tr.put rowsOrd [viV n] (rX n s) (tr 0))) k (updX f n (some (rX n s))) :=
  ⟨by unfold setT; rw [if_pos rfl, Tr.put_toL ro_ord _ _ _ h.srt]; exact Tr.putL_sorted ro_ord h.srt, by unfold setT; rw [if_pos rfl, n_put_old h.srt _ (by rw [h.lk]; exact hn), h.n], h.putL n s, h.rest' _⟩
theorem Xs.del (h : Xs tr (k + 1) f) (n : Int) {r : List Vl} (hn : f n = some r) : Xs (setT tr 0 (Tr.del rowsOrd [viV n] (tr 0))) k (updX f n none) :=
  ⟨by unfold setT; rw [if_pos rfl, Tr.del_toL ro_ord _ _ h.srt]; exact Tr.delL_sorted h.srt, by
    have := n_del_old h.srt (k := [viV n]) (by rw [h.lk]; exact hn)
    have := h.n
    unfold setT; rw [if_pos rfl]; omega, fun m => by
    unfold setT updX
    rw [if_pos rfl, look_del h.srt]
    by_cases e : m = n
    · rw [if_pos e, if_pos (viV_eq.2 e)]
    · rw [if_neg e, if_neg (fun e2 => e (viV_eq.1 e2)), h.lk], h.rest' _⟩
theorem Xs.full (h : Xs tr k f) : (∃ i, i < 6 ∧ 200 < (tr i).n) ↔ 200 < k := by
  constructor
  · rintro ⟨i, hi, hn⟩
    by_cases e : i = 0
    · subst e; rw [h.n] at hn; exact hn
    · have := h.rest i (by omega) hi; omega
  · intro hk
    exact ⟨0, by omega, by rw [h.n]; exact hk⟩
theorem Xs.doPut {ts : List Tb} (hx : ExT ts) (h : Xs tr k f) (ch : List (ByteArray × List Vl × List Vl)) (sp : List (Int × List Vl)) (n : Int) (s : ByteArray) (a : Ptr) (c : Nat) (hs : s.size ≤ 60) (hsp : sp.any (hitM 0 [viV n]) = false) (hf : (f n).getD [] ≠ rX n s) :
    doM ts ⟨tr, ch, sp⟩ ⟨1, ⟨#[116]⟩, ⟨a, c, rX n s⟩⟩ = .ok ⟨setT tr 0 (Tr.put rowsOrd [viV n] (rX n s) (tr 0)), ch ++ [((ts.getD 0 default).n, (f n).getD [], rX n s)], sp ++ [(((0 : Nat) : Int), [viV n])]⟩ :=
  doM_E (s := ⟨tr, ch, sp⟩) (hx.claimPut sp n s a c hs hsp) (by simp) (h.lk n) hf
theorem Xs.doSame {ts : List Tb} (hx : ExT ts) (h : Xs tr k f) (ch : List (ByteArray × List Vl × List Vl)) (sp : List (Int × List Vl)) (n : Int) (s : ByteArray) (a : Ptr) (c : Nat) (hs : s.size ≤ 60) (hsp : sp.any (hitM 0 [viV n]) = false) (hf : f n = some (rX n s)) :
    doM ts ⟨tr, ch, sp⟩ ⟨1, ⟨#[116]⟩, ⟨a, c, rX n s⟩⟩ = .ok ⟨tr, ch, sp ++ [(((0 : Nat) : Int), [viV n])]⟩ :=
  doM_C (s := ⟨tr, ch, sp⟩) (hx.claimPut sp n s a c hs hsp) (by simp) ((h.lk n).trans hf) rfl
theorem Xs.doDel {ts : List Tb} (hx : ExT ts) (h : Xs tr k f) (ch : List (ByteArray × List Vl × List Vl)) (sp : List (Int × List Vl)) (n : Int) (a : Ptr) (c : Nat) (hsp : sp.any (hitM 0 [viV n]) = false) {r : List Vl} (hf : f n = some r) :
    doM ts ⟨tr, ch, sp⟩ ⟨2, ⟨#[116]⟩, ⟨a, c, [viV n]⟩⟩ = .ok ⟨setT tr 0 (Tr.del rowsOrd [viV n] (tr 0)), ch ++ [((ts.getD 0 default).n, r, [])], sp ++ [(((0 : Nat) : Int), [viV n])]⟩ :=
  doM_B (s := ⟨tr, ch, sp⟩) (hx.claimDel sp n a c hsp) rfl ((h.lk n).trans hf)
theorem Xs.doNone {ts : List Tb} (hx : ExT ts) (h : Xs tr k f) (ch : List (ByteArray × List Vl × List Vl)) (sp : List (Int × List Vl)) (n : Int) (a : Ptr) (c : Nat) (hsp : sp.any (hitM 0 [viV n]) = false) (hf : f n = none) :
    doM ts ⟨tr, ch, sp⟩ ⟨2, ⟨#[116]⟩, ⟨a, c, [viV n]⟩⟩ = .error 22 :=
  doM_A (s := ⟨tr, ch, sp⟩) (hx.claimDel sp n a c hsp) rfl ((h.lk n).trans hf)
theorem hit_ne {n m : Int} (h : n ≠ m) : ([(((0 : Nat) : Int), [viV n])] : List (Int × List Vl)).any (hitM 0 [viV m]) = false := by
  have : rowsOrd [viV m] [viV n] ≠ 0 := fun e => h (viV_eq.1 ((ro_zero _ _).1 e)).symm
  simp [hitM, this]
end
/-- The last snapshot behind a commit. -/
theorem Went.top {B : Nat} {s s' : Stm} {ms : Ms} {w w' : World} (h : Went B s s' ms w w') (hk : s.sn.length = s.cs.length + 1) (hf : s.cs.length ≤ 32) : s'.top.tr = ms.tr ∧ s'.top.v = s.v + 1 := by
  have e := h.sn
  have hl : s'.sn.length = s.sn.length + 1 - (s.cs.length + 1 - 32) := by
    have := congrArg List.length e
    simpa using this
  have e1 : (s'.sn.map Sn.p)[s'.sn.length - 1]? = some (s.v + 1, ms.tr) := by
    rw [e, List.getElem?_drop, hl]
    rw [List.getElem?_append_right (by rw [List.length_map]; omega), List.length_map]
    rw [show (s.cs.length + 1 - 32) + (s.sn.length + 1 - (s.cs.length + 1 - 32) - 1) - s.sn.length = 0 by omega]
    rfl
  rw [List.getElem?_map] at e1
  have e2 : s'.sn[s'.sn.length - 1]? = some s'.top := by
    unfold Stm.top
    rw [List.getD_eq_getElem?_getD, List.getElem?_eq_getElem (by omega)]
    rfl
  rw [e2] at e1
  have e3 : s'.top.p = (s.v + 1, ms.tr) := by simpa using e1
  exact ⟨congrArg (·.2) e3, congrArg (·.1) e3⟩
theorem ErrT.only {G : Nat} {w w' : World} {M : Nat → Prop} (h : ErrT G w) (ho : Only M w w') (hM : ∀ k, M k → G ≤ k) : ErrT G w' :=
  ⟨h.1, ho.cell h.2 (fun e => by have := hM _ e; have := h.1; omega)⟩
end Go.Proofs.YtnfpomjcofhppaaGreatDoor
namespace Go.Proofs.YtnfpomjcofhppaaGreatDoor
open Go.RowKit

theorem SAt.tsl {B : Nat} {w : World} {s : Stm} (h : SAt B w s) : s.ts.length ≤ 100 ∧ ∀ t ∈ s.ts, t.l.length ≤ 100 := by
  have h6 := h.ok.six
  refine ⟨by omega, fun t ht => ?_⟩
  obtain ⟨i, hi, rfl⟩ := List.getElem_of_mem ht
  have := (h.ok.tab i hi).2.2.1
  rw [List.getD_eq_getElem?_getD, List.getElem?_eq_getElem hi] at this
  simp only [Option.getD_some] at this
  omega
set_option maxRecDepth 100000 in
theorem field_sn1 (ca : Ptr) (n cc : Nat) (v : Int) (p0 p1 p2 p3 p4 p5 : Ptr) (w : World) : Sem.run Tryz.prog (Instr.field 82 (.agg #[.slice ca n cc, .int .i64 v, .pointer p0, .pointer p1, .pointer p2, .pointer p3, .pointer p4, .pointer p5]) 1) w = .ok (.int .i64 v) w := by rfl
set_option maxRecDepth 100000 in
theorem field_sn0 (ca : Ptr) (n cc : Nat) (v : Int) (p0 p1 p2 p3 p4 p5 : Ptr) (w : World) : Sem.run Tryz.prog (Instr.field 82 (.agg #[.slice ca n cc, .int .i64 v, .pointer p0, .pointer p1, .pointer p2, .pointer p3, .pointer p4, .pointer p5]) 0) w = .ok (.slice ca n cc) w := by rfl
set_option maxRecDepth 100000 in
set_option maxHeartbeats 3200000 in
theorem versionS_any (B : Nat) (s : Stm) (w : World) (h : SAt B w s) :
    Calls Tryz.prog 8 #[.pointer (some ⟨s.b, 0, none⟩)] w fun e w' => e = .returned (.int .i64 s.v) ∧ w.grownBy w' none := by
  have HL := Lib.hid (last_any B s w h)
  have Hv := Lib.hid h.topV
  clear h
  unfold snV at HL
  go_enter Tryz.func8, Tryz.ntmps8
  go_wp2_with fail
  refine HL.out.mono ?_
  rintro e w2 ⟨rfl, hg2⟩
  have F1 := field_sn1 s.ca s.ts.length s.cc s.top.v (s.top.ps 0) (s.top.ps 1) (s.top.ps 2) (s.top.ps 3) (s.top.ps 4) (s.top.ps 5) w2
  go_wp2_with fail
  go_ret
  exact ⟨by rw [Hv.out]; rfl, hg2⟩
/-- A snapshot in memory. -/
structure Snp (S : Nat → Prop) (w : World) (p : Nat) (ca : Ptr) (cc : Nat) (ts : List Tb) (x : Sn) : Prop where
  blk : w.heap[p]? = some (cSn ca ts.length cc x)
  cat : TbsS S w ca ts
  tre : ∀ i, i < 6 → TrAt S w (x.tr i) (x.ps i)
  own : S p
theorem Snp.keep {S : Nat → Prop} {w w' : World} {p : Nat} {ca : Ptr} {cc : Nat} {ts : List Tb} {x : Sn} (h : Snp S w p ca cc ts x) (hk : Stays S w w') : Snp S w' p ca cc ts x :=
  ⟨(hk.2 p h.own (Array.getElem?_eq_some_iff.1 h.blk).1).trans h.blk, h.cat.keep hk, fun i hi => (h.tre i hi).keep hk, h.own⟩
theorem sinceS_any (B : Nat) (s : Stm) (w : World) (v : Int) (Q : Ending → World → Prop) (h : SAt B w s) (hQ : Calls Tryz.prog 29 #[.pointer (some ⟨s.J, 0, none⟩), .int .i64 v] w (fun e w' => ∃ u c, e = .returned (.tuple #[u, .int .i64 c]) ∧ Q e w')) :
    Calls Tryz.prog 10 #[.pointer (some ⟨s.b, 0, none⟩), .int .i64 v] w Q := by
  have c0 := cell_of_row _ _ 0 _ _ _ h.blk
  simp at c0
  have HQ := Lib.hid hQ
  clear h hQ
  go_enter Tryz.func10, Tryz.ntmps10
  go_wp2_with fail
  refine HQ.out.mono ?_
  rintro e w2 ⟨u, c, rfl, hq⟩
  go_wp2_with fail
  exact hq
end Go.Proofs.YtnfpomjcofhppaaGreatDoor
