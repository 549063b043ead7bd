/- The contract of the document's ReadRows. -/
import Derived.Test.YthdaibmminibhaaDoorRefRr
namespace Go.Proofs.YthdaibmminibhaaDoor
open Go.RowKit

def RRows (w : World) (r : Option (List (List Vl) × Nat)) (e : Ending) (w' : World) : Prop :=
  (∀ ls k, r = some (ls, k) → ∃ v rws, e = .returned (.tuple #[v, .int .i64 k]) ∧ rws.map Rw.l = ls ∧ OwnR w.heap.size w' v rws) ∧ (r = none → e = .returned (.tuple #[.slice none 0 0, .int .i64 0])) ∧ Below w.heap.size w w'
theorem RRows.no {w w' : World} {e : Ending} (h : e = .returned (.tuple #[.slice none 0 0, .int .i64 0])) (hb : Below w.heap.size w w') : RRows w none e w' := ⟨fun _ _ h => (by cases h), fun _ => h, hb⟩
theorem OwnR.stayB {B : Nat} {w w' : World} {v : Value} {l : List Rw} (h : OwnR B w v l) (hb : Below w.heap.size w w') : OwnR B w' v l :=
  ⟨World.ownsRow.kept h.1 (grown_below hb none) (by cases hv : v.ownBlock with | none => exact .inl rfl | some k => exact .inr (by simp)), fun r hr => (h.2 r hr).keep (grown_below hb none) (by simp) (.inl rfl)⟩
set_option maxRecDepth 100000 in
set_option maxHeartbeats 6400000 in
theorem refReadRows_any (a : Option Addr) (cap : Nat) (l : List UInt8) (w : World) (hb : BAt w.heap.size w a l) (hc : l.length ≤ cap) (hm : cap ≤ 9223372036854775807) (hbig : l.length ≤ 1000000) :
    Calls Tryd.prog 26 #[.slice a l.length cap] w (RRows w (readL l)) := by
  have HR := Lib.hid (refReadNumber_any a cap l w hb)
  unfold readL
  cases hr : readN l with
  | none =>
    rw [hr] at HR
    generalize l.length = len at *
    clear hr hb
    go_enter Tryd.func26, Tryd.ntmps26
    go_wp2_with fail
    refine HR.out.mono ?_
    rintro e w1 ⟨rfl, rfl⟩
    unfold rnV
    go_wp2_with fail
    go_ret2
    exact RRows.no rfl (Below.refl _ _)
  | some x =>
    obtain ⟨n, k⟩ := x
    rw [hr] at HR
    obtain ⟨_, hk1, hk2, hn64, hk10⟩ := readN_some hr
    have hk0 : ((k : Int) == 0) = false := beq_eq_false_iff_ne.2 (by omega)
    have hn64' : (n : Int) < 18446744073709551616 := by omega
    simp only
    obtain ⟨b, off, rfl, _, _⟩ := hb.at (i := 0) (by omega)
    have HV := Lib.hid (fun (q : Nat) (hq : q ≤ l.length) (W : World) (hW : Below w.heap.size w W) => refReadRow_any (if cap = q then some ⟨b, off, none⟩ else some ⟨b, off + q, none⟩) (cap - q) (l.drop q) W (((below_drop hb hc q hq).keep (grown_below hW none) (by simp)).mono hW.size) (by rw [List.length_drop]; omega) (by omega))
    simp only [List.length_drop] at HV
    have hU : Hid (Rup l k n 0 k []) := Lib.hid (Rup.start l k n (by omega))
    obtain ⟨r, hr0⟩ : ∃ r, r = readRs n (l.drop k) := ⟨_, rfl⟩
    rw [← hr0]
    have Hr := Lib.hid hr0
    obtain ⟨i0, hi, hz0, hz1, hz2⟩ := info_parts row_info
    obtain ⟨len, hlen⟩ : ∃ len, len = l.length := ⟨_, rfl⟩
    have Hlen := Lib.hid hlen
    rw [← hlen] at HV HR hc hk2 hbig ⊢
    clear hr hb hr0 hlen
    go_enter Tryd.func26, Tryd.ntmps26
    go_wp2_with fail
    refine HR.out.mono ?_
    rintro e w1 ⟨rfl, rfl⟩
    unfold rnV
    go_wp2_with fail
    go_loopw [5, 6, 7] (fun at' v i wr => ∃ (j q : Nat) (cur : List Rw), i = .int .u64 j ∧ at' = .int .i64 q ∧ j ≤ n ∧ cur.length = j ∧ j ≤ q ∧ q ≤ len ∧ Hid (Rup l k n j q (cur.map Rw.l)) ∧ Hid (OwnR w.heap.size wr v cur) ∧ Hid (Below w.heap.size w wr)) (fun _ _ i _ => n - (intOf i).toNat)
    case atStart => exact ⟨0, k, [], rfl, rfl, Nat.zero_le _, rfl, Nat.zero_le _, hk2, hU, Lib.hid (OwnR.nil _ _), Lib.hid (Below.refl _ _)⟩
    case round =>
      obtain ⟨j, q, cur, rfl, rfl, hj, hcl0, hjq, hql, U, O, K⟩ := hrel
      have Hcl := Lib.hid hcl0
      clear hcl0
      by_cases hlt : j < n
      · have j1 : (q : Int) ≤ len := by omega
        have j2 : (len : Int) ≤ cap := by omega
        have HV0 := HV.out q hql wr K.out
        by_cases hcq : cap = q
        · rw [if_pos hcq] at HV0
          have hv : readR (l.drop q) = none := by rw [List.drop_eq_nil_of_le (by rw [← Hlen.out]; omega)]; rfl
          subst hcq
          obtain rfl : len = cap := by omega
          rw [Nat.sub_self] at HV0
          clear j1 j2
          have HV1 := Lib.hid HV0
          clear HV0
          have Hno : Hid (r = none) := Lib.hid (by rw [Hr.out]; exact U.out.none hlt hv)
          rw [hv] at HV1
          clear hv
          go_wp2_with fail
          refine HV1.out.mono ?_
          rintro e w2 ⟨_, h2, hg⟩
          obtain rfl := h2 rfl
          have K2 := Lib.hid (K.out.trans (hg.mono K.out.size))
          clear hg h2
          go_wp2_with fail
          go_ret2
          rw [Hno.out]
          exact RRows.no rfl K2.out
        · rw [if_neg hcq] at HV0
          have j3 : ¬ (cap : Int) = q := by omega
          have HV1 := Lib.hid HV0
          clear HV0
          cases hv : readR (l.drop q) with
          | none =>
            have Hno : Hid (r = none) := Lib.hid (by rw [Hr.out]; exact U.out.none hlt hv)
            rw [hv] at HV1
            clear hv
            go_wp2_with fail
            refine HV1.out.mono ?_
            rintro e w2 ⟨_, h2, hg⟩
            obtain rfl := h2 rfl
            have K2 := Lib.hid (K.out.trans (hg.mono K.out.size))
            clear hg h2
            go_wp2_with fail
            go_ret2
            rw [Hno.out]
            exact RRows.no rfl K2.out
          | some x =>
            obtain ⟨v, kv⟩ := x
            have U2 := Lib.hid (U.out.step hlt hv)
            obtain ⟨_, v255, hkv, _, vgood⟩ := readR_some hv
            have hfit := Lib.hid (fun x hx => (vgood x hx).2)
            have hq2 : q + kv ≤ len := by rw [Hlen.out]; exact U2.out.2.2.1
            have tt : ((kv : Int) == 0) = false := beq_eq_false_iff_ne.2 (by omega)
            have Hv := Lib.hid hv
            clear hv vgood
            go_wp2_with fail
            refine HV1.out.mono ?_
            rintro e w2 ⟨h1, _, hg⟩
            obtain ⟨u, rfl, ov⟩ := h1 v kv Hv.out
            have K2 := Lib.hid (K.out.trans (hg.mono K.out.size))
            have O2 := Lib.hid (O.out.stayB hg)
            have hs2 : w.heap.size ≤ w2.heap.size := K2.out.size
            obtain ⟨ra, rc, rfl, ro⟩ := ov.row (out := u6) v255 hfit.out (fun k hk => (World.ownsRow.lt O.out.1 k hk).2)
            have hss : w.heap.size ≤ wr.heap.size := K.out.size
            have RO : Hid (ROk w.heap.size w2 u6 ⟨ra, rc, v⟩) := Lib.hid ⟨ro.1, ro.2.1, ro.2.2.imp id (fun ⟨b, off, h1, h2, h3⟩ => ⟨b, off, h1, by omega, h3⟩)⟩
            have hcl : cur.length ≤ 1000000 := by rw [Hcl.out]; omega
            clear h1 hg ov ro
            go_wp2_with (at_builtin; refine wpList_append_own_at _ rfl _ _ 45 rfl w.heap.size 42 i0 (.slice none 0 0) 1 24 Tryd.underlying45 hi hz0 hz1 hz2 rfl (by decide) _ _ _ rfl (World.ownsRow.alloc O2.out.1 _) ⟨w2.heap.size, 0, none⟩ 1 1 [.slice ra v.length rc] rfl rfl ?c1 ?c2 ?c3 ?c4 ?c5 ?_)
            case c1 => exact cell_new1 _ _ _
            case c2 => intro u hu; simp at hu; subst hu; rfl
            case c3 => unfold maxLen; omega
            case c4 => omega
            case c5 => simp; omega
            intro v' w3 hown' hgrow _ hat
            have hat2 : v'.ownBlock = u6.ownBlock ∨ ∃ k, v'.ownBlock = some k ∧ w2.heap.size ≤ k := hat.imp id (fun h => ⟨_, h, by simp⟩)
            have hgr2 := (World.grownBy_alloc w2 (.cells #[.slice ra v.length rc] 42) _).trans hgrow
            have keepR : ∀ r, ROk w.heap.size w2 u6 r → ROk w.heap.size w3 v' r := fun r hr => hr.keep hgr2 (fun k hk => .inr hk) hat2
            have O3 := Lib.hid (OwnR.more (x := ⟨ra, rc, v⟩) rfl hown' (fun r hr => keepR r (O2.out.2 r hr)) (keepR _ RO.out))
            have K3 := Lib.hid (K2.out.grown hgr2 hs2 (fun j hj => (World.ownsRow.lt O2.out.1 j hj).1))
            clear hown' hgrow hat hat2 hgr2 keepR hcl
            go_wp2_with fail
            go_roundw
            case rel => exact ⟨j + 1, q + kv, cur ++ [⟨ra, rc, v⟩], by go_num, by go_num, by omega, by rw [List.length_append, Hcl.out]; rfl, by omega, hq2, Lib.hid (by simpa using U2.out), O3, K3⟩
            case measure => simp [intOf]; omega
      · obtain rfl : j = n := by omega
        have Hyes : Hid (r = some (cur.map Rw.l, q - k)) := Lib.hid (by rw [Hr.out]; exact U.out.done)
        have hq0 : k + (q - k) = q := by have := U.out.2.1; omega
        have Hq0 := Lib.hid hq0
        clear hq0
        go_wp2_with fail
        go_ret2
        refine ⟨fun vs m h => ?_, fun h => (by rw [Hyes.out] at h; cases h), K.out⟩
        rw [Hyes.out] at h
        simp only [Option.map_some, Option.some.injEq, Prod.mk.injEq] at h
        obtain ⟨rfl, rfl⟩ := h
        exact ⟨u6, cur, by rw [Hq0.out]; rfl, rfl, O.out⟩
end Go.Proofs.YthdaibmminibhaaDoor
