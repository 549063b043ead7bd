/- Contracts of the document's ReadRow and ReadRows. -/
import Derived.Test.YthdaibmminibhaaDoorRefRv
import Derived.Test.YthdaibmminibhaaDoorRowsR
namespace Go.Proofs.YthdaibmminibhaaDoor
open Go.RowKit

def RRow (w : World) (r : Option (List Vl × Nat)) (e : Ending) (w' : World) : Prop :=
  (∀ vs k, r = some (vs, k) → ∃ v, e = .returned (.tuple #[v, .int .i64 k]) ∧ OwnV w.heap.size w' v vs) ∧ (r = none → e = .returned (.tuple #[.slice none 0 0, .int .i64 0])) ∧ Below w.heap.size w w'
theorem RRow.no {w w' : World} {e : Ending} (h : e = .returned (.tuple #[.slice none 0 0, .int .i64 0])) (hb : Below w.heap.size w w') : RRow w none e w' := ⟨fun _ _ h => (by cases h), fun _ => h, hb⟩
theorem below_drop {B : Nat} {w : World} {b off : Nat} {l : List UInt8} {cap : Nat} (h : BAt B w (some ⟨b, off, none⟩) l) (hc : l.length ≤ cap) (q : Nat) (hq : q ≤ l.length) : BAt B w (if cap = q then some ⟨b, off, none⟩ else some ⟨b, off + q, none⟩) (l.drop q) := h.suf hq hc
set_option maxRecDepth 100000 in
set_option maxHeartbeats 6400000 in
theorem refReadRow_any (a : Option Addr) (cap : Nat) (l : List UInt8) (w : World) (hb : BAt w.heap.size w a l) (hc : l.length ≤ cap) (hm : cap ≤ 9223372036854775807) :
    Calls Tryd.prog 25 #[.slice a l.length cap] w (RRow w (readR l)) := by
  have HR := Lib.hid (refReadNumber_any a cap l w hb)
  unfold readR
  cases hr : readN l with
  | none =>
    rw [hr] at HR
    generalize l.length = len at *
    clear hr hb
    go_enter Tryd.func25, Tryd.ntmps25
    go_wp2_with fail
    refine HR.out.mono ?_
    rintro e w1 ⟨rfl, rfl⟩
    unfold rnV
    go_wp2_with fail
    go_ret2
    exact RRow.no rfl (Below.refl _ _)
  | some x =>
    obtain ⟨n, k⟩ := x
    rw [hr] at HR
    obtain ⟨_, hk1, hk2, hn64, hk10⟩ := readN_some hr
    have hk0 : ((k : Int) == 0) = false := beq_eq_false_iff_ne.2 (by omega)
    simp only
    by_cases h1 : n ≤ 255
    · rw [if_pos h1]
      have h1' : (n : Int) ≤ 255 := by omega
      obtain ⟨b, off, rfl, _, _⟩ := hb.at (i := 0) (by omega)
      have HV := Lib.hid (fun (q : Nat) (hq : q ≤ l.length) (W : World) (hW : Below w.heap.size w W) => refReadValue_any (if cap = q then some ⟨b, off, none⟩ else some ⟨b, off + q, none⟩) (cap - q) (l.drop q) W (((below_drop hb hc q hq).keep (grown_below hW none) (by simp)).mono hW.size) (by rw [List.length_drop]; omega) (by omega))
      simp only [List.length_drop] at HV
      have hU : Hid (Vup l k n 0 k []) := Lib.hid (Vup.start l k n (by omega))
      obtain ⟨r, hr0⟩ : ∃ r, r = readVs n (l.drop k) := ⟨_, rfl⟩
      rw [← hr0]
      have Hr := Lib.hid hr0
      obtain ⟨i0, hi, hz0, hz1, hz2⟩ := info_parts val_info
      obtain ⟨len, hlen⟩ : ∃ len, len = l.length := ⟨_, rfl⟩
      have Hlen := Lib.hid hlen
      rw [← hlen] at HV HR hc hk2 ⊢
      clear hr hb hr0 hlen
      go_enter Tryd.func25, Tryd.ntmps25
      go_wp2_with fail
      refine HR.out.mono ?_
      rintro e w1 ⟨rfl, rfl⟩
      unfold rnV
      go_wp2_with fail
      go_loopw [5, 6, 7] (fun at' v i wr => ∃ (j q : Nat) (cur : List Vl), i = .int .u64 j ∧ at' = .int .i64 q ∧ j ≤ n ∧ cur.length ≤ n ∧ q ≤ len ∧ Hid (Vup l k n j q cur) ∧ Hid (OwnV w.heap.size wr v cur) ∧ Hid (Below w.heap.size w wr)) (fun _ _ i _ => n - (intOf i).toNat)
      case atStart => exact ⟨0, k, [], rfl, rfl, Nat.zero_le _, Nat.zero_le _, hk2, hU, Lib.hid (World.ownsRow_made w #[] 0 (Nat.le_refl _) (by unfold maxLen; omega) rfl), Lib.hid ((Below.refl _ _).alloc (Nat.le_refl _) _)⟩
      case round =>
        obtain ⟨j, q, cur, rfl, rfl, hj, hcl, hql, U, O, K⟩ := hrel
        by_cases hlt : j < n
        · have j1 : (q : Int) ≤ len := by omega
          have j2 : (len : Int) ≤ cap := by omega
          have HV0 := HV.out q hql wr K.out
          by_cases hcq : cap = q
          · rw [if_pos hcq] at HV0
            have hv : readV (l.drop q) = none := by rw [List.drop_eq_nil_of_le (by rw [← Hlen.out]; omega)]; rfl
            subst hcq
            obtain rfl : len = cap := by omega
            rw [Nat.sub_self] at HV0
            clear j1 j2
            have HV1 := Lib.hid HV0
            clear HV0
            have Hno : Hid (r = none) := Lib.hid (by rw [Hr.out]; exact U.out.none hlt hv)
            rw [hv] at HV1
            clear hv
            go_wp2_with fail
            refine HV1.out.mono ?_
            rintro e w2 ⟨rfl, hg⟩
            have K2 := Lib.hid (K.out.trans ((below_grown (hg.trans (World.grownBy_alloc w2 (.cells #[.int .i64 0, .int .i64 0, .string ⟨#[]⟩] 38) none))).mono K.out.size))
            unfold rvV
            clear hg
            go_wp2_with fail
            go_ret2
            rw [Hno.out]
            exact RRow.no rfl K2.out
          · rw [if_neg hcq] at HV0
            have j3 : ¬ (cap : Int) = q := by omega
            have HV1 := Lib.hid HV0
            clear HV0
            cases hv : readV (l.drop q) with
            | none =>
              have Hno : Hid (r = none) := Lib.hid (by rw [Hr.out]; exact U.out.none hlt hv)
              rw [hv] at HV1
              clear hv
              go_wp2_with fail
              refine HV1.out.mono ?_
              rintro e w2 ⟨rfl, hg⟩
              have K2 := Lib.hid (K.out.trans ((below_grown (hg.trans (World.grownBy_alloc w2 (.cells #[.int .i64 0, .int .i64 0, .string ⟨#[]⟩] 38) none))).mono K.out.size))
              unfold rvV
              clear hg
              go_wp2_with fail
              go_ret2
              rw [Hno.out]
              exact RRow.no rfl K2.out
            | some x =>
              obtain ⟨v, kv⟩ := x
              have U2 := Lib.hid (U.out.step hlt hv)
              have hkv : 1 ≤ kv := (readV_some hv).2.1
              have hcn : (cur ++ [v]).length ≤ n := by have := U2.out.2.2.2; omega
              have hq2 : q + kv ≤ len := by rw [Hlen.out]; exact U2.out.2.2.1
              rw [hv] at HV1
              have tt : ((kv : Int) == 0) = false := beq_eq_false_iff_ne.2 (by omega)
              clear hv
              go_wp2_with fail
              refine HV1.out.mono ?_
              rintro e w2 ⟨rfl, hg⟩
              have K2 := Lib.hid (K.out.trans ((below_grown hg).mono K.out.size))
              have O2 : Hid (OwnV w.heap.size w2 u6 cur) := Lib.hid (World.ownsRow.kept O.out hg (by cases hv : u6.ownBlock with | none => exact .inl rfl | some k => exact .inr (by simp)))
              have hs2 : w.heap.size ≤ w2.heap.size := K2.out.size
              unfold rvV
              clear hg
              go_wp2_with (at_builtin; refine wpList_append_own _ rfl _ _ 42 rfl w.heap.size 38 i0 (.agg #[.int .i64 0, .int .i64 0, .string ⟨#[]⟩]) 3 32 Tryd.underlying42 hi hz0 hz1 hz2 rfl (by decide) _ _ _ rfl (World.ownsRow.alloc (World.ownsRow.alloc O2.out _) _) ⟨w2.heap.size + 1, 0, none⟩ 1 1 (vC v) rfl rfl ?c1 ?c2 ?c3 ?c4 ?c5 ?_)
              case c1 => exact vC_new w2 _ v _
              case c2 => exact vC_one v
              case c3 => unfold maxLen; omega
              case c4 => omega
              case c5 => simp; omega
              intro v' w3 hown' hgrow _
              have O3 := Lib.hid (OwnV.more (x := v) rfl hown')
              have K3 := Lib.hid (K2.out.grown ((World.grownBy_alloc w2 (.cells #[.int .i64 v.k, .int .i64 v.n, .string v.s] 38) _).trans ((World.grownBy_alloc _ (.cells #[.int .i64 v.k, .int .i64 v.n, .string v.s] 38) _).trans hgrow)) hs2 (fun j hj => (World.ownsRow.lt O2.out j hj).1))
              clear hown' hgrow
              go_wp2_with fail
              go_roundw
              case rel => exact ⟨j + 1, q + kv, cur ++ [v], by go_num, by go_num, by omega, hcn, hq2, U2, O3, K3⟩
              case measure => simp [intOf]; omega
        · obtain rfl : j = n := by omega
          have Hyes : Hid (r = some (cur, q - k)) := Lib.hid (by rw [Hr.out]; exact U.out.done)
          have hq0 : k + (q - k) = q := by have := U.out.2.1; omega
          have Hq0 := Lib.hid hq0
          clear hq0
          go_wp2_with fail
          go_ret2
          refine ⟨fun vs m h => ?_, fun h => (by rw [Hyes.out] at h; cases h), K.out⟩
          rw [Hyes.out] at h
          simp only [Option.map_some, Option.some.injEq, Prod.mk.injEq] at h
          obtain ⟨rfl, rfl⟩ := h
          exact ⟨u6, by rw [Hq0.out]; rfl, O.out⟩
    · rw [if_neg h1]
      have h1' : (255 : Int) < n := by omega
      generalize l.length = len at *
      clear hr hb
      go_enter Tryd.func25, Tryd.ntmps25
      go_wp2_with fail
      refine HR.out.mono ?_
      rintro e w1 ⟨rfl, rfl⟩
      unfold rnV
      go_wp2_with fail
      go_ret2
      exact RRow.no rfl (Below.refl _ _)
end Go.Proofs.YthdaibmminibhaaDoor
