/- The draft's all: all operations. Mathematics of StoreSteps: what a commit changed leads from its trees to those behind it. The draft's all, walked. -/
import Derived.Test.YtnfpomjcofhppaaGreatDoorZb31
import Derived.Test.YtnfpomjcofhppaaGreatDoorZb28
namespace Go.Proofs.YtnfpomjcofhppaaGreatDoor
open Go.RowKit

/-- Operations in memory. -/
def OpS (S : Nat → Prop) (w : World) (a : Ptr) (l : List Om) : Prop :=
  l.length ≤ 9223372036854775807 ∧ (∀ o ∈ l, RwS S w o.r.a o.r.l ∧ o.r.l.length ≤ o.r.cap) ∧ (l = [] ∨ ∃ b off, a = some ⟨b, off, none⟩ ∧ S b ∧ b < w.heap.size ∧ ∀ i, i < l.length → w.cell? ⟨b, off + i * 3, none⟩ = some (.int .i64 (l.getD i default).k) ∧ w.cell? ⟨b, off + i * 3 + 1, none⟩ = some (.string (l.getD i default).n) ∧ w.cell? ⟨b, off + i * 3 + 2, none⟩ = some (l.getD i default).r.v)
theorem OpS.keep {S : Nat → Prop} {w w' : World} {a : Ptr} {l : List Om} (h : OpS S w a l) (hk : Stays S w w') : OpS S w' a l := by
  refine ⟨h.1, fun o ho => ⟨(h.2.1 o ho).1.keep hk, (h.2.1 o ho).2⟩, h.2.2.imp id fun ⟨b, off, e, hs, hlt, hc⟩ => ⟨b, off, e, hs, Nat.lt_of_lt_of_le hlt hk.1, fun i hi => ?_⟩⟩
  have hb := hk.2 b hs hlt
  exact ⟨(World.cell?_of_block (a := ⟨b, _, none⟩) hb).trans (hc i hi).1, (World.cell?_of_block (a := ⟨b, _, none⟩) hb).trans (hc i hi).2.1, (World.cell?_of_block (a := ⟨b, _, none⟩) hb).trans (hc i hi).2.2⟩
theorem OpS.mono {S S' : Nat → Prop} {w : World} {a : Ptr} {l : List Om} (h : OpS S w a l) (hs : ∀ b, b < w.heap.size → S b → S' b) : OpS S' w a l :=
  ⟨h.1, fun o ho => ⟨(h.2.1 o ho).1.mono hs, (h.2.1 o ho).2⟩, h.2.2.imp id fun ⟨b, off, e, h1, h2, hc⟩ => ⟨b, off, e, hs b h2 h1, h2, hc⟩⟩
theorem OpS.at {S : Nat → Prop} {w : World} {a : Ptr} {l : List Om} (h : OpS S w a l) {i : Nat} (hi : i < l.length) : (∃ b off, a = some ⟨b, off, none⟩ ∧ b < w.heap.size ∧ w.cell? ⟨b, off + i * 3, none⟩ = some (.int .i64 (l.getD i default).k) ∧ w.cell? ⟨b, off + i * 3 + 1, none⟩ = some (.string (l.getD i default).n) ∧ w.cell? ⟨b, off + i * 3 + 2, none⟩ = some (l.getD i default).r.v) ∧ RwS S w (l.getD i default).r.a (l.getD i default).r.l ∧ (l.getD i default).r.l.length ≤ (l.getD i default).r.cap := by
  refine ⟨?_, h.2.1 _ (by simp [List.getD, hi])⟩
  rcases h.2.2 with h0 | ⟨b, off, e, _, hlt, hc⟩
  · rw [h0] at hi; simp at hi
  · exact ⟨b, off, e, hlt, hc i hi⟩
/-- Trees of a store: in balance, in order, not great. -/
def TrsOk (tr : Nat → Tre) (m : Nat) : Prop := ∀ i, i < 6 → Tr.ok (tr i) ∧ Tr.Sorted rowsOrd (tr i).toL ∧ (tr i).n ≤ m
theorem TrsOk.set {tr : Nat → Tre} {m i : Nat} {t : Tre} (h : TrsOk tr m) (ht : i < 6 → Tr.ok t ∧ Tr.Sorted rowsOrd t.toL ∧ t.n ≤ m + 1) : TrsOk (setT tr i t) (m + 1) := fun j hj => by
  unfold setT
  by_cases e : j = i
  · rw [if_pos e]; exact ht (by omega)
  · rw [if_neg e]; have := h j hj; exact ⟨this.1, this.2.1, by omega⟩
theorem put_okT {t : Tre} {k v : List Vl} {m : Nat} (h : Tr.ok t ∧ Tr.Sorted rowsOrd t.toL ∧ t.n ≤ m) : Tr.ok (Tr.put rowsOrd k v t) ∧ Tr.Sorted rowsOrd (Tr.put rowsOrd k v t).toL ∧ (Tr.put rowsOrd k v t).n ≤ m + 1 := by
  refine ⟨(Tr.put_ok rowsOrd k v t h.1).1, by rw [Tr.put_toL ro_ord k v t h.2.1]; exact Tr.putL_sorted ro_ord h.2.1, ?_⟩
  rw [Tr.n_toL, Tr.put_toL ro_ord k v t h.2.1]
  unfold Tr.putL
  rw [Tr.ins_len]
  have h1 : (Tr.delL rowsOrd k t.toL).length ≤ t.toL.length := List.length_filter_le _ _
  have h2 := h.2.2
  rw [Tr.n_toL] at h2
  omega
theorem del_okT {t : Tre} {k : List Vl} {m : Nat} (h : Tr.ok t ∧ Tr.Sorted rowsOrd t.toL ∧ t.n ≤ m) : Tr.ok (Tr.del rowsOrd k t) ∧ Tr.Sorted rowsOrd (Tr.del rowsOrd k t).toL ∧ (Tr.del rowsOrd k t).n ≤ m + 1 := by
  refine ⟨(Tr.del_ok rowsOrd t k h.1).1, by rw [Tr.del_toL ro_ord t k h.2.1]; exact Tr.delL_sorted h.2.1, ?_⟩
  rw [Tr.n_toL, Tr.del_toL ro_ord t k h.2.1]
  have h1 : (Tr.delL rowsOrd k t.toL).length ≤ t.toL.length := List.length_filter_le _ _
  have h2 := h.2.2
  rw [Tr.n_toL] at h2
  omega
theorem doM_trs {ts : List Tb} {s s' : Ms} {o : Om} {m : Nat} (h : TrsOk s.tr m) (hd : doM ts s o = .ok s') : TrsOk s'.tr (m + 1) := by
  unfold doM at hd
  split at hd
  · cases hd
  · next i key hcm =>
    split at hd
    · split at hd
      · cases hd
      · cases hd
        exact h.set (fun hi => put_okT (h i hi))
    · split at hd
      · cases hd
        exact h.set (fun hi => del_okT (h i hi))
      · split at hd
        · cases hd
          exact fun j hj => ⟨(h j hj).1, (h j hj).2.1, Nat.le_succ_of_le (h j hj).2.2⟩
        · cases hd
          exact h.set (fun hi => put_okT (h i hi))
theorem opsM_append {ts : List Tb} : ∀ (a b : List Om) (s : Ms), opsM ts s (a ++ b) = match opsM ts s a with | .error c => .error c | .ok s' => opsM ts s' b
  | [], _, _ => rfl
  | o :: a, b, s => by
    simp only [List.cons_append, opsM]
    cases doM ts s o with
    | error c => rfl
    | ok s' => exact opsM_append a b s'
theorem opsM_step {ts : List Tb} {s s' : Ms} {l : List Om} {k : Nat} (hk : k < l.length) (h : opsM ts s (l.take k) = .ok s') : opsM ts s (l.take (k + 1)) = doM ts s' (l.getD k default) := by
  rw [take_atE hk, opsM_append, h]
  simp only [opsM]
  cases doM ts s' (l.getD k default) <;> rfl
theorem opsM_stop {ts : List Tb} {s : Ms} {l : List Om} {k : Nat} {c : Int} (h : opsM ts s (l.take k) = .error c) : opsM ts s l = .error c := by
  have : l = l.take k ++ l.drop k := (List.take_append_drop k l).symm
  rw [this, opsM_append, h]
/-- What all leaves. -/
def Alled (R : Nat → Prop) (D : Nat) (d : Dm) (m : Except Int Ms) (w : World) (e : Ending) (w' : World) : Prop :=
  Only (fun k => k = D) w w' ∧ ((∃ c, m = .error c ∧ (e = .returned (.iface 87 (.int .i64 c)) ∨ ∃ N n, e = .returned (.iface 132 (.agg #[.string N, .int .i64 n, .iface 87 (.int .i64 c)]))))
  ∨ (∃ d', m = .ok d'.s ∧ e = .returned .nilIface ∧ DAt R w' D d' ∧ d'.ts = d.ts ∧ d'.ca = d.ca ∧ d'.cc = d.cc ∧ d'.ver = d.ver ∧ d'.ch.length ≤ 20))
/-- Behind k operations. -/
structure Ahead (R : Nat → Prop) (D : Nat) (d dk : Dm) (m k : Nat) (l : List Om) (w wr : World) : Prop where
  at_ : DAt R wr D dk
  ops : opsM d.ts d.s (l.take k) = .ok dk.s
  ts : dk.ts = d.ts
  ca : dk.ca = d.ca
  cc : dk.cc = d.cc
  ver : dk.ver = d.ver
  ch : dk.ch.length ≤ k
  sp : dk.sp.length ≤ k
  trs : TrsOk dk.tr (m + k)
  only : Only (fun b => b = D) w wr
  bc : ∀ b, bk dk.cha b → w.heap.size ≤ b
  bs : ∀ b, bk dk.spa b → w.heap.size ≤ b
theorem DAt.rowIn {R : Nat → Prop} {w : World} {D : Nat} {d : Dm} (h : DAt R w D d) {a : Ptr} {l : List Vl} (hr : RwS (fun b => ¬ R b ∧ b < D) w a l) : RwS (fun b => ¬ d.M R D b) w a l :=
  hr.mono (fun b _ hb e => by
    rcases e with e | e | e | e
    · omega
    · have := h.own.1 b e; omega
    · have := h.own.2 b e; omega
    · exact hb.1 e)
theorem Ahead.next {R : Nat → Prop} {D : Nat} {d dk d' : Dm} {m k : Nat} {l : List Om} {w wr w1 w2 : World} (h : Ahead R D d dk m k l w wr) (hk : k < l.length) (h1 : wr.grownBy w1 none) (hd : doM dk.ts dk.s (l.getD k default) = .ok d'.s) (hn : Next R D dk d' w1 w2) : Ahead R D d d' m (k + 1) l w w2 := by
  have hsz := h.only.size
  have hs1 := h1.size
  refine ⟨hn.at_, ?_, hn.ts.trans h.ts, hn.ca.trans h.ca, hn.cc.trans h.cc, hn.ver.trans h.ver, by have := hn.ch; have := h.ch; omega, by have := hn.sp; have := h.sp; omega, ?_, ?_, fun b hb => ?_, fun b hb => ?_⟩
  · rw [opsM_step hk h.ops, ← h.ts]; exact hd
  · have := doM_trs (s := dk.s) h.trs hd
    exact this
  · exact (h.only.grown h1 (by simp)).trans hn.only (fun b hb => by
      rcases hb with hb | hb | hb
      · exact .inl hb
      · exact .inr (h.bc b hb)
      · exact .inr (h.bs b hb))
  · rcases hn.bc b hb with e | e
    · exact h.bc b e
    · omega
  · rcases hn.bs b hb with e | e
    · exact h.bs b e
    · omega
theorem opsM_trs {ts : List Tb} : ∀ (l : List Om) (s s' : Ms) (m : Nat), TrsOk s.tr m → opsM ts s l = .ok s' → TrsOk s'.tr (m + l.length)
  | [], s, s', m, h, e => by
    simp only [opsM] at e
    cases e
    exact h
  | o :: l, s, s', m, h, e => by
    simp only [opsM] at e
    cases hd : doM ts s o with
    | error c => rw [hd] at e; cases e
    | ok s1 =>
      rw [hd] at e
      have := opsM_trs l s1 s' (m + 1) (doM_trs h hd) e
      rw [List.length_cons, show m + (l.length + 1) = m + 1 + l.length by omega]
      exact this
theorem commitM_trs {ts : List Tb} {tr : Nat → Tre} {l : List Om} {s : Ms} {m : Nat} (h : TrsOk tr m) (e : commitM ts tr l = .ok s) : TrsOk s.tr 200 := by
  unfold commitM at e
  split at e
  · cases e
  · split at e
    · cases e
    · cases hs : opsM ts ⟨tr, [], []⟩ l with
      | error c => rw [hs] at e; cases e
      | ok s' =>
        rw [hs] at e
        simp only at e
        split at e
        · cases e
        · next hn =>
          cases e
          have := opsM_trs l ⟨tr, [], []⟩ s m h hs
          exact fun i hi => ⟨(this i hi).1, (this i hi).2.1, by
            rcases Nat.lt_or_ge 200 (s.tr i).n with h1 | h1
            · exact absurd ⟨i, hi, h1⟩ hn
            · exact h1⟩
end Go.Proofs.YtnfpomjcofhppaaGreatDoor
namespace Go.Proofs.YtnfpomjcofhppaaGreatDoor
open Go.RowKit

theorem look_mem {k r : List Vl} : ∀ {l : PL}, lookL k l = some r → (k, r) ∈ l
  | [], h => by simp [lookL] at h
  | (xk, xv) :: l, h => by
    by_cases h2 : rowsOrd xk k = 0
    · rw [look_cons_eq h2] at h
      cases h
      rw [(ro_zero _ _).1 h2]
      exact List.mem_cons_self
    · rw [look_cons_ne h2] at h
      exact List.mem_cons_of_mem _ (look_mem h)
open Classical in
/-- A change of rows by keys, as the law does it. -/
noncomputable def changeL (K : Nat) (l : PL) (old new : List Vl) : Option PL :=
  if (if new = [] then old else new).length < K then none else
  if lookL ((if new = [] then old else new).take K) l = (if old = [] then none else some old) then
    some (if new = [] then Tr.delL rowsOrd ((if new = [] then old else new).take K) l else Tr.putL rowsOrd ((if new = [] then old else new).take K) new l)
  else none
noncomputable def stepL (ts : List Tb) (P : Nat → PL) : List (ByteArray × List Vl × List Vl) → Option (Nat → PL)
  | [] => some P
  | (n, o, w) :: cs => match tabI ts n with
    | none => none
    | some i => match changeL (ts.getD i default).k.toNat (P i) o w with
      | none => none
      | some l => stepL ts (fun j => if j = i then l else P j) cs
theorem stepL_app (ts : List Tb) : ∀ (a b : List (ByteArray × List Vl × List Vl)) (P : Nat → PL), stepL ts P (a ++ b) = (stepL ts P a).bind (fun Q => stepL ts Q b)
  | [], _, _ => rfl
  | (n, o, w) :: a, b, P => by
    simp only [List.cons_append, stepL]
    cases tabI ts n with
    | none => rfl
    | some i =>
      simp only
      cases changeL (ts.getD i default).k.toNat (P i) o w with
      | none => rfl
      | some l => exact stepL_app ts a b _
/-- Each row lies at its own key. -/
def TabInv (ts : List Tb) (tr : Nat → Tre) : Prop := ∀ i, i < ts.length → Tr.Sorted rowsOrd (tr i).toL ∧ ∀ x ∈ (tr i).toL, (ts.getD i default).k.toNat ≤ x.2.length ∧ x.2.take (ts.getD i default).k.toNat = x.1 ∧ x.2.all Vl.good = true
theorem tabI_self {ts : List Tb} (hc : CatOk ts) {i : Nat} (hi : i < ts.length) : tabI ts (ts.getD i default).n = some i := by
  unfold tabI
  rw [List.findIdx?_eq_some_iff_getElem]
  refine ⟨hi, by simp [List.getD, hi], fun j hj => ?_⟩
  have := hc.apart i hi j hj
  have hjl : j < ts.length := by omega
  simpa [List.getD, hjl, hi] using this
theorem tabI_lt {ts : List Tb} {M : ByteArray} {i : Nat} (h : tabI ts M = some i) : i < ts.length := by
  unfold tabI at h
  rw [List.findIdx?_eq_some_iff_getElem] at h
  exact h.1
theorem fits_good {l : List Cl} {r : List Vl} (h : FitsV l r) : r.all Vl.good = true := by
  rw [List.all_eq_true]
  intro x hx
  obtain ⟨i, hi, rfl⟩ := List.getElem_of_mem hx
  have := h.2 i (by rw [← h.len]; exact hi)
  unfold holdsB at this
  have e : (r.map vvOf).getD i default = vvOf r[i] := by simp [List.getD, hi]
  rw [e, Bool.and_eq_true] at this
  exact this.1
theorem keyM_take {t : Tb} {o : Om} {key : List Vl} (h : keyM t o = some key) (ho : o.k ≠ 2) (hk : t.k.toNat ≤ t.l.length) : t.k.toNat ≤ o.r.l.length ∧ o.r.l.take t.k.toNat = key ∧ o.r.l.all Vl.good = true := by
  unfold keyM at h
  rw [if_neg ho] at h
  split at h
  · next hf =>
    cases h
    exact ⟨by rw [hf.len]; exact hk, rfl, fits_good hf⟩
  · cases h
theorem claimM_key {ts : List Tb} {sp : List (Int × List Vl)} {o : Om} {i : Nat} {key : List Vl} (h : claimM ts sp o = .ok (i, key)) : i < ts.length ∧ keyM (ts.getD i default) o = some key := by
  unfold claimM at h
  split at h
  · cases h
  · split at h
    · cases h
    · next k hk =>
      split at h
      · cases h
      · next key2 hkey =>
        split at h
        · cases h
        · cases h
          exact ⟨tabI_lt hk, hkey⟩
theorem setT_toL (tr : Nat → Tre) (i : Nat) (t : Tre) : (fun j => (setT tr i t j).toL) = fun j => if j = i then t.toL else (tr j).toL := by
  funext j
  unfold setT
  split <;> rfl
theorem TabInv.set {ts : List Tb} {tr : Nat → Tre} {i : Nat} {t : Tre} (h : TabInv ts tr) (ht : i < ts.length → Tr.Sorted rowsOrd t.toL ∧ ∀ x ∈ t.toL, (ts.getD i default).k.toNat ≤ x.2.length ∧ x.2.take (ts.getD i default).k.toNat = x.1 ∧ x.2.all Vl.good = true) : TabInv ts (setT tr i t) := fun j hj => by
  unfold setT
  by_cases e : j = i
  · rw [if_pos e, e]; exact ht (by omega)
  · rw [if_neg e]; exact h j hj
theorem mem_put {t : Tre} {k r : List Vl} (hs : Tr.Sorted rowsOrd t.toL) {x : List Vl × List Vl} (hx : x ∈ (Tr.put rowsOrd k r t).toL) : x = (k, r) ∨ x ∈ t.toL := by
  rw [Tr.put_toL ro_ord k r t hs] at hx
  unfold Tr.putL at hx
  rcases Tr.mem_ins _ hx with h | h
  · exact .inl h
  · exact .inr (List.mem_filter.1 h).1
/-- What an operation changed leads on. -/
theorem doM_step {ts : List Tb} {s s' : Ms} {o : Om} (hc : CatOk ts) (hi : TabInv ts s.tr) (h : doM ts s o = .ok s') :
    ∃ d, s'.ch = s.ch ++ d ∧ stepL ts (fun i => (s.tr i).toL) d = some (fun i => (s'.tr i).toL) ∧ TabInv ts s'.tr ∧ ∀ x ∈ d, x.2.1 ≠ x.2.2 ∧ x.2.2.all Vl.good = true := by
  unfold doM at h
  split at h
  · cases h
  · next i key hcl =>
    obtain ⟨hit, hkey⟩ := claimM_key hcl
    obtain ⟨k1, k2, k8, _⟩ := hc.tab i hit
    obtain ⟨hso, hrow⟩ := hi i hit
    have hkl : (ts.getD i default).k.toNat ≤ (ts.getD i default).l.length := by omega
    have hkp : 1 ≤ (ts.getD i default).k.toNat := by omega
    have hput : o.k ≠ 2 → ((ts.getD i default).k.toNat ≤ o.r.l.length ∧ o.r.l.take (ts.getD i default).k.toNat = key ∧ o.r.l.all Vl.good = true) := fun h2 => keyM_take hkey h2 hkl
    have inv : o.k ≠ 2 → TabInv ts (setT s.tr i (Tr.put rowsOrd key o.r.l (s.tr i))) := fun h2 => hi.set fun _ => ⟨by rw [Tr.put_toL ro_ord _ _ _ hso]; exact Tr.putL_sorted ro_ord hso, fun x hx => by
      rcases mem_put hso hx with rfl | hx
      · exact hput h2
      · exact hrow x hx⟩
    split at h
    · next hlk =>
      split at h
      · cases h
      · next h2 =>
        cases h
        obtain ⟨p1, p2, p3⟩ := hput h2
        have hne : o.r.l ≠ [] := by intro e; rw [e, List.length_nil] at p1; omega
        refine ⟨_, rfl, ?_, inv h2, ?_⟩
        · simp only [stepL, tabI_self hc hit]
          unfold changeL
          rw [if_neg hne, if_neg (by omega), p2, hlk, if_pos (by simp), if_neg hne]
          simp only
          rw [setT_toL, Tr.put_toL ro_ord _ _ _ hso]
        · intro x hx
          obtain rfl := List.mem_singleton.1 hx
          exact ⟨fun e => hne e.symm, p3⟩
    · next was hlk =>
      obtain ⟨w1, w2, _⟩ := hrow (key, was) (look_mem hlk)
      simp only at w1 w2
      have hwne : was ≠ [] := by intro e; rw [e, List.length_nil] at w1; omega
      split at h
      · next h2 =>
        cases h
        refine ⟨_, rfl, ?_, hi.set fun _ => ⟨by rw [Tr.del_toL ro_ord _ _ hso]; exact Tr.delL_sorted hso, fun x hx => ?_⟩, ?_⟩
        · simp only [stepL, tabI_self hc hit]
          unfold changeL
          rw [if_pos rfl, if_neg (by omega), w2, hlk, if_neg hwne, if_pos rfl, if_pos rfl]
          simp only
          rw [setT_toL, Tr.del_toL ro_ord _ _ hso]
        · rw [Tr.del_toL ro_ord _ _ hso] at hx
          exact hrow x (List.mem_filter.1 hx).1
        · intro x hx
          obtain rfl := List.mem_singleton.1 hx
          exact ⟨hwne, rfl⟩
      · next h2 =>
        split at h
        · next he =>
          cases h
          exact ⟨[], by simp, rfl, hi, by simp⟩
        · next he =>
          cases h
          obtain ⟨p1, p2, p3⟩ := hput h2
          have hne : o.r.l ≠ [] := by intro e; rw [e, List.length_nil] at p1; omega
          refine ⟨_, rfl, ?_, inv h2, ?_⟩
          · simp only [stepL, tabI_self hc hit]
            unfold changeL
            rw [if_neg hne, if_neg (by omega), p2, hlk, if_neg hwne, if_pos rfl, if_neg hne]
            simp only
            rw [setT_toL, Tr.put_toL ro_ord _ _ _ hso]
          · intro x hx
            obtain rfl := List.mem_singleton.1 hx
            exact ⟨he, p3⟩
/-- What a commit changed leads on. -/
theorem opsM_step2 {ts : List Tb} (hc : CatOk ts) : ∀ (l : List Om) (s s' : Ms), TabInv ts s.tr → opsM ts s l = .ok s' → ∃ d, s'.ch = s.ch ++ d ∧ stepL ts (fun i => (s.tr i).toL) d = some (fun i => (s'.tr i).toL) ∧ TabInv ts s'.tr ∧ ∀ x ∈ d, x.2.1 ≠ x.2.2 ∧ x.2.2.all Vl.good = true
  | [], s, s', hi, h => by
    simp only [opsM] at h
    cases h
    exact ⟨[], by simp, rfl, hi, by simp⟩
  | o :: l, s, s', hi, h => by
    simp only [opsM] at h
    cases hd : doM ts s o with
    | error c => rw [hd] at h; cases h
    | ok s1 =>
      rw [hd] at h
      obtain ⟨d1, e1, f1, i1, n1⟩ := doM_step hc hi hd
      obtain ⟨d2, e2, f2, i2, n2⟩ := opsM_step2 hc l s1 s' i1 h
      refine ⟨d1 ++ d2, by rw [e2, e1, List.append_assoc], by rw [stepL_app, f1]; exact f2, i2, fun x hx => ?_⟩
      rcases List.mem_append.1 hx with hx | hx
      · exact n1 x hx
      · exact n2 x hx
theorem commitM_step {ts : List Tb} (hc : CatOk ts) {tr : Nat → Tre} {l : List Om} {ms : Ms} (hi : TabInv ts tr) (h : commitM ts tr l = .ok ms) : stepL ts (fun i => (tr i).toL) ms.ch = some (fun i => (ms.tr i).toL) ∧ TabInv ts ms.tr ∧ ∀ x ∈ ms.ch, x.2.1 ≠ x.2.2 ∧ x.2.2.all Vl.good = true := by
  unfold commitM at h
  split at h
  · cases h
  · split at h
    · cases h
    · cases hs : opsM ts ⟨tr, [], []⟩ l with
      | error c => rw [hs] at h; cases h
      | ok s' =>
        rw [hs] at h
        simp only at h
        split at h
        · cases h
        · have e0 : s' = ms := by cases h; rfl
          subst e0
          obtain ⟨d, e, f, i, n⟩ := opsM_step2 hc l ⟨tr, [], []⟩ _ hi hs
          rw [List.nil_append] at e
          rw [e]
          exact ⟨f, i, n⟩
end Go.Proofs.YtnfpomjcofhppaaGreatDoor
namespace Go.Proofs.YtnfpomjcofhppaaGreatDoor
open Go.RowKit

theorem dk_six {R : Nat → Prop} {w : World} {D : Nat} {d : Dm} (h : DAt R w D d) : w.cell? ⟨D, 2, none⟩ = some (.pointer (d.ps 0)) ∧ w.cell? ⟨D, 3, none⟩ = some (.pointer (d.ps 1)) ∧ w.cell? ⟨D, 4, none⟩ = some (.pointer (d.ps 2)) ∧ w.cell? ⟨D, 5, none⟩ = some (.pointer (d.ps 3)) ∧ w.cell? ⟨D, 6, none⟩ = some (.pointer (d.ps 4)) ∧ w.cell? ⟨D, 7, none⟩ = some (.pointer (d.ps 5)) :=
  ⟨cell_of_row _ _ 2 _ _ _ h.blk, cell_of_row _ _ 3 _ _ _ h.blk, cell_of_row _ _ 4 _ _ _ h.blk, cell_of_row _ _ 5 _ _ _ h.blk, cell_of_row _ _ 6 _ _ _ h.blk, cell_of_row _ _ 7 _ _ _ h.blk⟩
theorem idx6 (ps : Nat → Ptr) (k : Nat) (hk : k < 6) (w : World) : (Instr.index 80 (.agg #[.pointer (ps 0), .pointer (ps 1), .pointer (ps 2), .pointer (ps 3), .pointer (ps 4), .pointer (ps 5)]) (.int .i64 (k : Nat))).run Tryz.prog w = .ok (.pointer (ps k)) w := by
  obtain rfl | rfl | rfl | rfl | rfl | rfl : k = 0 ∨ k = 1 ∨ k = 2 ∨ k = 3 ∨ k = 4 ∨ k = 5 := by omega
  · kernel_rfl
  · kernel_rfl
  · kernel_rfl
  · kernel_rfl
  · kernel_rfl
  · kernel_rfl
set_option maxRecDepth 100000 in
set_option maxHeartbeats 12800000 in
theorem all_any (R : Nat → Prop) (D : Nat) (d : Dm) (oa : Ptr) (oc m : Nat) (l : List Om) (w : World) (h : DAt R w D d) (hc : CatOk d.ts) (hcc : d.ts.length ≤ d.cc) (h0 : (d.ch = [] ∧ d.sp = []) ∧ d.cha = none ∧ d.spa = none) (ht : TrsOk d.tr m) (hm : m ≤ 1000) (ho : OpS (fun b => ¬ R b ∧ b < D) w oa l) (hoc : l.length ≤ oc) :
    Calls Tryz.prog 25 #[.pointer (some ⟨D, 0, none⟩), .slice oa l.length oc] w (Alled R D d (commitM d.ts d.tr l) w) := by
  have HA := Lib.hid (show Ahead R D d d m 0 l w w from ⟨h, rfl, rfl, rfl, rfl, rfl, by rw [h0.1.1]; simp, by rw [h0.1.2]; simp, ht, Only.refl _ _, by rw [h0.2.1]; simp [bk], by rw [h0.2.2]; simp [bk]⟩)
  have HO := Lib.hid ho
  have HC := Lib.hid (And.intro hc hcc)
  have hds : d.s = ⟨d.tr, [], []⟩ := by simp [Dm.s, h0.1.1, h0.1.2]
  obtain ⟨cm, hcm⟩ : ∃ cm, cm = commitM d.ts d.tr l := ⟨_, rfl⟩
  have HM := Lib.hid hcm
  rw [← hcm]
  have Hds := Lib.hid hds
  obtain ⟨n, hn⟩ : ∃ n, n = l.length := ⟨_, rfl⟩
  have Hn := Lib.hid hn
  rw [← hn] at hoc ⊢
  clear h hc hcc h0 ht ho hds hcm
  by_cases hz : n = 0
  · have hz' : ((n : Int) == 0) = true := beq_iff_eq.2 (by omega)
    have HE := Lib.hid (show cm = .error 1 from HM.out.trans (by unfold commitM; rw [if_pos (by omega)]))
    clear hz hn
    go_enter Tryz.func25, Tryz.ntmps25
    go_wp2_with fail
    go_ret
    exact ⟨Only.refl _ _, .inl ⟨1, HE.out, .inl rfl⟩⟩
  · have hz' : ((n : Int) == 0) = false := beq_eq_false_iff_ne.2 (by omega)
    by_cases hg : 20 < n
    · have hg' : (20 : Int) < n := by omega
      have HE := Lib.hid (show cm = .error 3 from HM.out.trans (by unfold commitM; rw [if_neg (by omega), if_pos (by omega)]))
      clear hz hg hn
      go_enter Tryz.func25, Tryz.ntmps25
      go_wp2_with fail
      go_ret
      exact ⟨Only.refl _ _, .inl ⟨3, HE.out, .inl rfl⟩⟩
    · have hg' : ¬ (20 : Int) < n := by omega
      have HM2 := Lib.hid (show cm = match opsM d.ts d.s l with | .error c => .error c | .ok s => (open Classical in if ∃ i, i < 6 ∧ 200 < (s.tr i).n then .error 3 else .ok s) from HM.out.trans (by unfold commitM; rw [if_neg (by omega), if_neg (by omega), Hds.out]; rfl))
      have hn20 : n ≤ 20 := by omega
      clear hz hg hn
      go_enter Tryz.func25, Tryz.ntmps25
      go_wp2_with fail
      go_loopw [22] (fun i wr => ∃ k : Nat, i = .int .i64 k ∧ k ≤ n ∧ Hid (∃ dk, Ahead R D d dk m k l w wr)) (fun i _ => n - (intOf i).toNat)
      case atStart => exact ⟨0, rfl, by omega, Lib.hid ⟨d, HA.out⟩⟩
      case round =>
        obtain ⟨k, rfl, hk, I⟩ := hrel
        obtain ⟨dk, hah⟩ := I.out
        have HAk := Lib.hid hah
        by_cases hlt : k < n
        · have hkl : k < l.length := by rw [← Hn.out]; exact hlt
          have hst : Stays (fun b => ¬ R b ∧ b < D) w wr := hah.only.stays (fun b hs _ e => by omega)
          obtain ⟨⟨b, off, rfl, hbl, c0, c1, c2⟩, hrow, hrc⟩ := (HO.out.keep hst).at hkl
          have hdo := fun W (hW : wr.grownBy W none) => do_any R D dk (l.getD k default) W (hah.at_.keepG hW) (by rw [hah.ts]; exact HC.out.1) (by rw [hah.ts, hah.cc]; exact HC.out.2) (by have := hah.sp; omega) (by have := hah.ch; omega) (fun i hi => ⟨(hah.trs i hi).2.1, by have := (hah.trs i hi).2.2; omega⟩) ((hah.at_.rowIn hrow).keep (.of hW)) hrc
          obtain ⟨dm, hdm⟩ : ∃ dm, dm = doM dk.ts dk.s (l.getD k default) := ⟨_, rfl⟩
          rw [← hdm] at hdo
          have Hdm := Lib.hid hdm
          have HDo := Lib.hid hdo
          obtain ⟨x, hx⟩ : ∃ x, x = l.getD k default := ⟨_, rfl⟩
          rw [← hx] at c0 c1 c2 HDo
          obtain ⟨xk, xn, ⟨xa, xc, xl⟩⟩ := x
          simp only [Om.v, Rw.v] at c0 c1 c2 HDo
          obtain ⟨q, hq⟩ : ∃ q, q = xl.length := ⟨_, rfl⟩
          rw [← hq] at c2 HDo
          have i1 : (k : Int) ≤ oc := by omega
          clear hst hrow hrc hdo hdm hx hq hah I hbl
          have G1 := Lib.hid (World.grownBy_alloc wr (cOp xk xn xa q xc) none)
          go_wp2_with fail
          refine (HDo.out _ G1.out).mono ?_
          rintro e w2 (⟨c, hec, rfl, ho2⟩ | ⟨d', hok, rfl, hnx⟩)
          · have hwr : wr.heap.size ≠ D := by
              have := HAk.out.at_.lt; omega
            have hown : ∀ b, (b = D ∨ bk dk.cha b ∨ bk dk.spa b) → b < wr.heap.size := fun b hb => HAk.out.at_.Mlt b (by
              rcases hb with hb | hb | hb
              · exact .inl hb
              · exact .inr (.inl hb)
              · exact .inr (.inr (.inl hb)))
            have hb2 : w2.heap[wr.heap.size]? = some (cOp xk xn xa q xc) := (ho2.block wr.heap.size (by simp) (fun e => by have := hown _ e; omega)).trans (heap_alloc_new wr (cOp xk xn xa q xc))
            have v1 : w2.cell? ⟨wr.heap.size, 1, none⟩ = some (.string xn) := cell_of_row _ _ 1 _ _ _ hb2
            have HE := Lib.hid (show cm = .error c from HM2.out.trans (by
              have e1 := opsM_step hkl HAk.out.ops
              rw [← HAk.out.ts, ← Hdm.out, hec] at e1
              rw [HAk.out.ts] at e1
              rw [opsM_stop e1]))
            have Z := Lib.hid ho2
            clear hec ho2 hown hb2 c0 c1 c2
            go_wp2_with fail
            go_ret
            refine ⟨(HAk.out.only.grown G1.out (by simp)).trans Z.out (fun b hb => ?_), .inl ⟨c, HE.out, .inr ⟨xn, k, rfl⟩⟩⟩
            rcases hb with hb | hb | hb
            · exact .inl hb
            · exact .inr (HAk.out.bc b hb)
            · exact .inr (HAk.out.bs b hb)
          · have Z := Lib.hid (And.intro hok hnx)
            clear hok hnx c0 c1 c2
            go_wp2_with fail
            go_roundw
            case rel => exact ⟨k + 1, by go_num, by omega, Lib.hid ⟨d', HAk.out.next hkl G1.out (Hdm.out.symm.trans Z.out.1) Z.out.2⟩⟩
            case measure => simp [intOf]; omega
        · obtain rfl : k = n := by omega
          obtain ⟨c2, c3, c4, c5, c6, c7⟩ := dk_six hah.at_
          have HL := Lib.hid (fun i (hi : i < 6) => len_any _ (dk.tr i) (dk.ps i) wr (hah.at_.tre i hi))
          have hops : opsM d.ts d.s l = .ok dk.s := by
            have := hah.ops
            rwa [List.take_of_length_le (by rw [← Hn.out]; exact Nat.le_refl _)] at this
          have HM3 := Lib.hid (show cm = (open Classical in if ∃ i, i < 6 ∧ 200 < (dk.tr i).n then .error 3 else .ok dk.s) from HM2.out.trans (by rw [hops]; rfl))
          have HS := Lib.hid (fun i (hi : i < 6) => show (dk.tr i).n ≤ 2000 by have := (hah.trs i hi).2.2; omega)
          clear hah hops I
          go_wp2_with fail
          generalize hwo : wr = wo at *
          clear hwo
          go_loopw [44] (fun i wx => ∃ j : Nat, i = .int .i64 j ∧ j ≤ 6 ∧ Hid (∀ i, i < j → (dk.tr i).n ≤ 200) ∧ wo = wx) (fun i _ => 6 - (intOf i).toNat)
          case atStart => exact ⟨0, rfl, by omega, Lib.hid (fun i hi => by omega), rfl⟩
          case round =>
            obtain ⟨j, rfl, hj, J, rfl⟩ := hrel
            by_cases hj6 : j < 6
            · have HLj := Lib.hid (HL.out j hj6)
              have hSj := HS.out j hj6
              obtain ⟨tn, htn⟩ : ∃ tn, tn = (dk.tr j).n := ⟨_, rfl⟩
              rw [← htn] at HLj hSj
              have Htn := Lib.hid htn
              clear htn
              have hx := idx6 dk.ps j hj6
              have hj6' : (j : Int) < 6 := by omega
              by_cases hbig : 200 < tn
              · have hbig' : (200 : Int) < tn := by omega
                have HE := Lib.hid (show cm = .error 3 from HM3.out.trans (if_pos ⟨j, hj6, by rw [← Htn.out]; exact hbig⟩))
                clear hbig
                go_wp2_with fail
                refine HLj.out.mono ?_
                rintro e w3 ⟨rfl, rfl⟩
                go_wp2_with fail
                go_ret
                exact ⟨HAk.out.only, .inl ⟨3, HE.out, .inl rfl⟩⟩
              · have hbig' : ¬ (200 : Int) < tn := by omega
                have J2 : Hid (∀ i, i < j + 1 → (dk.tr i).n ≤ 200) := Lib.hid (fun i hi => by
                  by_cases e : i = j
                  · rw [e, ← Htn.out]; omega
                  · exact J.out i (by omega))
                clear hbig
                go_wp2_with fail
                refine HLj.out.mono ?_
                rintro e w3 ⟨rfl, rfl⟩
                go_wp2_with fail
                go_roundw
                case rel => exact ⟨j + 1, by go_num, by omega, J2, by simp⟩
                case measure => simp [intOf]; omega
            · obtain rfl : j = 6 := by omega
              have HE := Lib.hid (show cm = .ok dk.s from HM3.out.trans (if_neg (fun ⟨i, hi, h⟩ => by have := J.out i hi; omega)))
              go_wp2_with fail
              go_ret
              have hA := HAk.out
              exact ⟨hA.only, .inr ⟨dk, HE.out, rfl, hA.at_, hA.ts, hA.ca, hA.cc, hA.ver, by have := hA.ch; omega⟩⟩
end Go.Proofs.YtnfpomjcofhppaaGreatDoor
