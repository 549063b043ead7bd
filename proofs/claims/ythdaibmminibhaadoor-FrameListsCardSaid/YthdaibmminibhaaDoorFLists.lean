/- The law FrameLists walked. -/
import Derived.Test.YthdaibmminibhaaDoorList5
import Derived.Test.YthdaibmminibhaaDoorSplit5
import Derived.Test.YthdaibmminibhaaDoorAwake5
import Derived.Test.YthdaibmminibhaaDoorOpenP
namespace Go.Proofs.YthdaibmminibhaaDoor
open Go.RowKit

theorem nil_string (cap : Nat) (w : World) : (convert 32 9 (.slice none 0 cap)).run Tryd.prog w = .ok (.string ⟨#[]⟩) w := by kernel_rfl
theorem at_string {B : Nat} {w : World} {a : Option Addr} {l : List UInt8} (h : BAt B w a l) (cap : Nat) : (convert 32 9 (.slice a l.length cap)).run Tryd.prog w = .ok (.string ⟨l.toArray⟩) w := by
  cases a with
  | none =>
    obtain rfl : l = [] := by rcases h.2 with h | ⟨_, _, h, _⟩; exact h; cases h
    exact nil_string cap w
  | some ad =>
    refine run_convert_bytes_back w _ _ 5 ad cap l Tryd.underlying32 Tryd.underlying5 Tryd.underlying9 (fun j hj => ?_)
    obtain ⟨b, off, e, _, hc⟩ := h.at (i := j) hj
    cases e
    rw [add_at, hc]
    simp [List.getD, hj, bV]
theorem map_at {ps qs : List Pc} (h : ps.map Pc.l = qs.map Pc.l) (i : Nat) : (ps.getD i default).l = (qs.getD i default).l := by
  have := congrArg (fun l => l[i]?) h
  simp only [List.getElem?_map] at this
  simp only [List.getD]
  cases h1 : ps[i]? <;> cases h2 : qs[i]? <;> rw [h1, h2] at this <;> simp at this ⊢
  exact this
theorem BAt.drewN {B : Nat} {w : World} {a : Option Addr} {l : List UInt8} (h : BAt B w a l) (n : Nat) : BAt B (w.drewN n) a l := h.keep (grown_drewN (grown_refl w none) n) (by simp)
theorem frs_len : ∀ (ls : List (List UInt8)), (∀ l ∈ ls, l.length ≤ 1000) → (ls.flatMap frB).length ≤ 1007 * ls.length
  | [], _ => by simp
  | l :: ls, h => by
    have ih := frs_len ls (fun x hx => h x (by simp [hx]))
    have hl := h l (by simp)
    have h2 : (numB l.length).length ≤ 2 := (numB_len 1 l.length (by omega)).2
    rw [List.flatMap_cons, List.length_append, frB_len, aheadB_eq, List.length_cons]
    omega
theorem pcs_len (ps : List Pc) (h : ∀ p ∈ ps, p.l.length ≤ 1000) : ((ps.map Pc.l).flatMap frB).length ≤ 1007 * ps.length := by
  have := frs_len (ps.map Pc.l) (fun l hl => by rw [List.mem_map] at hl; obtain ⟨p, hp, rfl⟩ := hl; exact h p hp)
  rwa [List.length_map] at this
theorem own_emptyP (B : Nat) (w : World) (hB : B ≤ w.heap.size) : OwnP B (w.alloc (.cells #[] 32)) (.slice (some ⟨w.heap.size, 0, none⟩) 0 0) [] :=
  ⟨World.ownsRow_made w #[] 0 hB (by unfold maxLen; omega) rfl, by simp⟩
theorem OwnP.grown {B : Nat} {w wr w2 : World} {v : Value} {l : List Pc} (h : OwnP B wr v l) (hb : Below B w wr) (hB : B ≤ wr.heap.size) (hg : wr.grownBy w2 v.ownBlock) : Below B w w2 :=
  hb.grown hg hB (fun k hk => (World.ownsRow.lt h.1 k hk).1)
set_option maxRecDepth 100000 in
set_option maxHeartbeats 12800000 in
theorem FrameLists_short (G : Nat) (a c : Option Addr) (cap ccap : Nat) (ps qs : List Pc) (w : World) (hE : Sent3 G w ∧ ErrT G w ∧ G ≤ w.heap.size) (hF : SentF w) (ht : Turns w) (hP : PLow w.heap.size w a ps) (hQ : PLow w.heap.size w c qs)
    (hpn : ∀ p ∈ ps, p.a = none → p.cap = 0) (hqn : ∀ p ∈ qs, p.a = none → p.cap = 0) (han : a = none → cap = 0) (hcn : c = none → ccap = 0) (hp50 : ps.length ≤ 50) (hq50 : qs.length ≤ 50) :
    Calls Tryd.prog 9 #[.slice a ps.length cap, .slice c qs.length ccap] w fun e w' => e = .returned (.bool true) ∧ Below w.heap.size w w' := by
  have HW := Lib.hid awake5_any
  have HT := Lib.hid ht
  have PA := Lib.hid hP
  have PC := Lib.hid hQ
  have HLA := Lib.hid (fun W (hW : Below w.heap.size w W) (hl : ∀ p ∈ ps, p.l.length ≤ 1000) => list_any a cap ps W ((hP.keep (grown_below hW none) (by simp)).mono hW.size) (ht.keep (grown_below hW none)) (fun p hp => by have := hl p hp; omega) hpn (by have := pcs_len ps hl; omega))
  have HLC := Lib.hid (fun W (hW : Below w.heap.size w W) (hl : ∀ p ∈ qs, p.l.length ≤ 1000) => list_any c ccap qs W ((hQ.keep (grown_below hW none) (by simp)).mono hW.size) (ht.keep (grown_below hW none)) (fun p hp => by have := hl p hp; omega) hqn (by have := pcs_len qs hl; omega))
  have HS := Lib.hid (fun W (hW : Below w.heap.size w W) (p : Option Addr) (r : Nat) (x : List UInt8) (hp : BAt W.heap.size W p x) (hc : x.length ≤ r) (hc2 : r ≤ 9223372036854775807) (hx : x.length ≤ 200020) =>
    split_any G p x r W ⟨hp, hc, hc2, hE.1.none (grown_below hW none), hE.2.1.none (grown_below hW none), Nat.le_trans hE.2.2 hW.size⟩ (hF.keep (grown_below hW none)) (ht.keep (grown_below hW none)) hx)
  have HTot := Lib.hid (fun (hA : ∀ p ∈ ps, p.l.length ≤ 1000) (hC : ∀ p ∈ qs, p.l.length ≤ 1000) => And.intro (pcs_len ps hA) (And.intro (pcs_len qs hC) (show splL ((ps.map Pc.l).flatMap frB ++ (qs.map Pc.l).flatMap frB) = (0, ps.map Pc.l ++ qs.map Pc.l) from by
    rw [← List.flatMap_append]
    refine splL_frs _ fun l hl => ?_
    rw [List.mem_append, List.mem_map, List.mem_map] at hl
    rcases hl with ⟨p, hp, rfl⟩ | ⟨p, hp, rfl⟩
    · have := hA p hp; omega
    · have := hC p hp; omega)))
  obtain ⟨na, hna⟩ : ∃ n, n = ps.length := ⟨_, rfl⟩
  obtain ⟨nc, hnc⟩ : ∃ n, n = qs.length := ⟨_, rfl⟩
  have Hna := Lib.hid hna
  have Hnc := Lib.hid hnc
  rw [← hna] at hp50 ⊢
  rw [← hnc] at hq50 ⊢
  rw [← hna] at HLA
  rw [← hnc] at HLC
  have h1' : (na : Int) ≤ 50 := by omega
  have h2' : (nc : Int) ≤ 50 := by omega
  have ix0 : ∀ w, (Instr.index 79 (.agg #[.slice a na cap, .slice c nc ccap]) (.int .i64 0)).run Tryd.prog w = .ok (.slice a na cap) w := fun _ => by kernel_rfl
  have ix1 : ∀ w, (Instr.index 79 (.agg #[.slice a na cap, .slice c nc ccap]) (.int .i64 1)).run Tryd.prog w = .ok (.slice c nc ccap) w := fun _ => by kernel_rfl
  clear hE hF ht hP hQ hpn hqn hna hnc
  go_enter Tryd.func9, Tryd.ntmps9
  go_wp2_with fail
  refine (HW.out _ HT.out).mono ?_
  rintro e w1 ⟨rfl, hb⟩
  have K1 := Lib.hid hb
  clear hb
  go_wp2_with fail
  go_loop [33] (fun i => ∃ (k : Nat), i = .int .i64 k ∧ k ≤ 2 ∧ Hid (1 ≤ k → ∀ p ∈ ps, p.l.length ≤ 1000) ∧ Hid (2 ≤ k → ∀ p ∈ qs, p.l.length ≤ 1000)) (fun i => 2 - (intOf i).toNat)
  case atStart => exact ⟨0, rfl, by omega, Lib.hid (fun h => by omega), Lib.hid (fun h => by omega)⟩
  case round =>
    obtain ⟨k, rfl, hk, FA, FC⟩ := hrel
    obtain rfl | rfl | rfl : k = 0 ∨ k = 1 ∨ k = 2 := by omega
    · skip
      have HLP := Lib.hid (PA.out.keep (grown_below K1.out none) (by simp))
      go_wp2_with fail
      go_loop [38] (fun i => ∃ (j : Nat), i = .int .i64 j ∧ j ≤ na ∧ Hid (∀ q, q < j → (ps.getD q default).l.length ≤ 1000)) (fun i => na - (intOf i).toNat)
      case atStart => exact ⟨0, rfl, by omega, Lib.hid (fun q hq => by omega)⟩
      case round =>
        obtain ⟨j, rfl, hj, E⟩ := hrel
        by_cases hlt : j < na
        · obtain ⟨b, off, rfl, _, c0⟩ := HLP.out.at (i := j) (by rw [← Hna.out]; exact hlt)
          have HE2 := Lib.hid (fun (hp : (ps.getD j default).l.length ≤ 1000) => (show ∀ q, q < j + 1 → (ps.getD q default).l.length ≤ 1000 from fun q hq => by
            by_cases e : q = j
            · rw [e]; exact hp
            · exact E.out q (by omega)))
          unfold Pc.v at c0
          generalize hpn : (ps.getD j default).l.length = pn at *
          generalize (ps.getD j default).a = pa at *
          generalize (ps.getD j default).cap = pc at *
          by_cases h1000 : pn ≤ 1000
          · have h1' : (pn : Int) ≤ 1000 := by omega
            have HE3 := Lib.hid (HE2.out h1000)
            clear hpn
            go_wp2_with fail
            go_round
            case rel => exact ⟨j + 1, by go_num, by omega, HE3⟩
            case measure => simp [intOf]; try omega
          · have h1' : (1000 : Int) < pn := by omega
            clear hpn
            go_wp2_with fail
            go_ret
            exact ⟨rfl, K1.out⟩
        · obtain rfl : j = na := by omega
          have HA : Hid (∀ p ∈ ps, p.l.length ≤ 1000) := Lib.hid (fun p hp => by
            obtain ⟨q, hq, e⟩ := List.getElem_of_mem hp
            have := E.out q (by rw [Hna.out]; exact hq)
            simp [List.getD, hq] at this
            rw [← e]; exact this)
          go_wp2_with fail
          go_round
          case rel => exact ⟨1, by go_num, by omega, Lib.hid (fun _ => HA.out), Lib.hid (fun h => (by omega))⟩
          case measure => simp [intOf]; try omega
    · skip
      have HLP := Lib.hid (PC.out.keep (grown_below K1.out none) (by simp))
      go_wp2_with fail
      go_loop [38] (fun i => ∃ (j : Nat), i = .int .i64 j ∧ j ≤ nc ∧ Hid (∀ q, q < j → (qs.getD q default).l.length ≤ 1000)) (fun i => nc - (intOf i).toNat)
      case atStart => exact ⟨0, rfl, by omega, Lib.hid (fun q hq => by omega)⟩
      case round =>
        obtain ⟨j, rfl, hj, E⟩ := hrel
        by_cases hlt : j < nc
        · obtain ⟨b, off, rfl, _, c0⟩ := HLP.out.at (i := j) (by rw [← Hnc.out]; exact hlt)
          have HE2 := Lib.hid (fun (hp : (qs.getD j default).l.length ≤ 1000) => (show ∀ q, q < j + 1 → (qs.getD q default).l.length ≤ 1000 from fun q hq => by
            by_cases e : q = j
            · rw [e]; exact hp
            · exact E.out q (by omega)))
          unfold Pc.v at c0
          generalize hpn : (qs.getD j default).l.length = pn at *
          generalize (qs.getD j default).a = pa at *
          generalize (qs.getD j default).cap = pc at *
          by_cases h1000 : pn ≤ 1000
          · have h1' : (pn : Int) ≤ 1000 := by omega
            have HE3 := Lib.hid (HE2.out h1000)
            clear hpn
            go_wp2_with fail
            go_round
            case rel => exact ⟨j + 1, by go_num, by omega, HE3⟩
            case measure => simp [intOf]; try omega
          · have h1' : (1000 : Int) < pn := by omega
            clear hpn
            go_wp2_with fail
            go_ret
            exact ⟨rfl, K1.out⟩
        · obtain rfl : j = nc := by omega
          have HA : Hid (∀ p ∈ qs, p.l.length ≤ 1000) := Lib.hid (fun p hp => by
            obtain ⟨q, hq, e⟩ := List.getElem_of_mem hp
            have := E.out q (by rw [Hnc.out]; exact hq)
            simp [List.getD, hq] at this
            rw [← e]; exact this)
          go_wp2_with fail
          go_round
          case rel => exact ⟨2, by go_num, by omega, Lib.hid (fun _ => FA.out (by omega)), Lib.hid (fun h => HA.out)⟩
          case measure => simp [intOf]; try omega
    · have hA := FA.out (by omega)
      have hC := FC.out (by omega)
      have HLA2 := Lib.hid (HLA.out _ K1.out hA)
      have HLC2 := Lib.hid (fun W hW => HLC.out W hW hC)
      obtain ⟨t1, t2, t3⟩ := HTot.out hA hC
      have T3 := Lib.hid t3
      have T1 := Lib.hid t1
      have T2 := Lib.hid t2
      generalize (ps.map Pc.l).flatMap frB = X at *
      generalize (qs.map Pc.l).flatMap frB = Y at *
      clear hA hC t1 t2 t3 FA FC HLA HLC HTot
      go_wp2_with fail
      refine HLA2.out.mono ?_
      rintro e w2 ⟨vx, rfl, ho, hb⟩
      have OX := Lib.hid ho
      have K2 := Lib.hid (K1.out.trans (hb.mono K1.out.size))
      clear hb ho
      go_wp2_with fail
      refine (HLC2.out _ K2.out).mono ?_
      rintro e w3 ⟨vy, rfl, ho, hb⟩
      have K3 := Lib.hid (K2.out.trans (hb.mono K2.out.size))
      have hX : X.length ≤ 50350 := by have := T1.out; rw [← Hna.out] at this; omega
      have hY : Y.length ≤ 50350 := by have := T2.out; rw [← Hnc.out] at this; omega
      obtain ⟨ax, cx, rfl, hbx, _, _, hnx⟩ := (OX.out.stay hb).read2 (by omega)
      obtain ⟨ay, cy, rfl, hby, _, _, hny⟩ := ho.read2 (by omega)
      have hs3 : w.heap.size ≤ w3.heap.size := K3.out.size
      have OE : Hid (OwnB w3.heap.size (w3.alloc (.cells #[] 5)) (.slice (some ⟨w3.heap.size, 0, none⟩) 0 0) []) := Lib.hid (own_empty _ _ (Nat.le_refl _))
      have KE := Lib.hid (K3.out.alloc (by exact hs3) (.cells #[] 5))
      have BX := Lib.hid (hbx.keep (World.grownBy_alloc w3 (.cells #[] 5) none) (by simp))
      have BY := Lib.hid hby
      have KE3 := Lib.hid ((Below.refl w3.heap.size w3).alloc (Nat.le_refl _) (.cells #[] 5))
      clear hb ho hbx hby
      go_wp2_with (at_builtin; refine wpList_append_bytes rfl (.tmp 58) (.tmp 59) rfl w3.heap.size w3.heap.size _ [] rfl OE.out ax X.length cx X rfl rfl BX.out hnx (by simp; omega) (by simp) ?_)
      intro v4 w4 o4 gr4 _
      have O4 : Hid (OwnB w3.heap.size w4 v4 X) := Lib.hid o4
      have L4 := Lib.hid (OE.out.grown KE3.out (by simp) gr4)
      have hs4 : w3.heap.size ≤ w4.heap.size := L4.out.size
      have BY4 := Lib.hid (BY.out.keep (grown_below L4.out none) (by simp))
      clear o4 gr4
      go_wp2_with (at_builtin; refine wpList_append_bytes rfl (.tmp 60) (.tmp 61) rfl w3.heap.size w3.heap.size v4 X rfl O4.out ay Y.length cy Y rfl rfl BY4.out hny (by omega) hs4 ?_)
      intro v5 w5 o5 gr5 _
      have O5 : Hid (OwnB w3.heap.size w5 v5 (X ++ Y)) := Lib.hid o5
      have L5 := Lib.hid (O4.out.grown L4.out hs4 gr5)
      have K5 := Lib.hid (K3.out.trans (L5.out.mono hs3))
      have hxy : (X ++ Y).length = X.length + Y.length := List.length_append
      clear o5 gr5
      obtain ⟨a5, c5, rfl, hb5, hc5, hcm5, hn5⟩ := O5.out.read2 (by omega)
      have HS5 := HS.out _ K5.out a5 c5 (X ++ Y) hb5 hc5 hcm5 (by omega)
      rw [T3.out] at HS5
      obtain ⟨n5, hn5'⟩ : ∃ n5, n5 = (X ++ Y).length := ⟨_, rfl⟩
      rw [← hn5'] at HS5 ⊢
      have HS6 := Lib.hid HS5
      clear HS5 hb5 hc5 hxy hn5'
      go_wp2_with fail
      refine HS6.out.mono ?_
      rintro e w6 ⟨v6, rs, rfl, hrs, ho, hb⟩
      have K6 := Lib.hid (K5.out.trans (hb.mono K5.out.size))
      have hrl : rs.length = na + nc := by
        have := congrArg List.length hrs
        simp at this
        rw [this, Hna.out, Hnc.out]
      obtain ⟨a6, c6, rfl, hp6, _, _, _⟩ := ho.low (by omega)
      have P6 := Lib.hid hp6
      have HM := Lib.hid (map_at (ps := rs) (qs := ps ++ qs) (by rw [hrs, List.map_append]))
      have Hrl := Lib.hid hrl
      have hs6 : w.heap.size ≤ w6.heap.size := K6.out.size
      have OE2 : Hid (OwnP w6.heap.size (w6.alloc (.cells #[] 32)) (.slice (some ⟨w6.heap.size, 0, none⟩) 0 0) []) := Lib.hid (own_emptyP _ _ (Nat.le_refl _))
      have KE2 := Lib.hid ((Below.refl w6.heap.size w6).alloc (Nat.le_refl _) (.cells #[] 32))
      have PA2 := Lib.hid (PA.out.keep (grown_below (K6.out.trans (KE2.out.mono hs6)) none) (by simp))
      rw [hrl]
      obtain ⟨nn, hnn⟩ : ∃ nn, nn = na + nc := ⟨_, rfl⟩
      have tt : ((nn : Int) != (na : Int) + (nc : Int)) = false := by rw [bne_eq_false_iff_eq]; omega
      rw [← hnn]
      have Hnn := Lib.hid hnn
      clear hb ho hp6 hrs hrl hnn
      go_wp2_with (at_builtin; refine wpList_append_pcs rfl (.tmp 86) (.tmp 87) rfl w6.heap.size w.heap.size _ [] rfl OE2.out a na cap ps Hna.out rfl PA2.out hs6 han ?z1 KE2.out.size ?_)
      case z1 => simp only [List.length_nil]; omega
      intro v7 w7 o7 gr7
      have O7 : Hid (OwnP w6.heap.size w7 v7 ps) := Lib.hid o7
      have L7 := Lib.hid (OE2.out.grown KE2.out KE2.out.size gr7)
      have hs7 : w6.heap.size ≤ w7.heap.size := L7.out.size
      have PC7 := Lib.hid (PC.out.keep (grown_below (K6.out.trans (L7.out.mono hs6)) none) (by simp))
      clear o7 gr7
      go_wp2_with (at_builtin; refine wpList_append_pcs rfl (.tmp 88) (.tmp 89) rfl w6.heap.size w.heap.size v7 ps rfl O7.out c nc ccap qs Hnc.out rfl PC7.out hs6 hcn ?z2 hs7 ?_)
      case z2 => rw [← Hna.out]; omega
      intro v8 w8 o8 gr8
      have L8 := Lib.hid (O7.out.grown L7.out hs7 gr8)
      have K8 := Lib.hid (K6.out.trans (L8.out.mono hs6))
      have P8 := Lib.hid (P6.out.keep (grown_below L8.out none) (by simp))
      have hl8 : (ps ++ qs).length = nn := by rw [List.length_append, ← Hna.out, ← Hnc.out, Hnn.out]
      obtain ⟨a8, c8, rfl, hp8, _, _, _⟩ := o8.low (by rw [hl8, Hnn.out]; omega)
      have Q8 := Lib.hid hp8
      have Hl8 := Lib.hid hl8
      rw [hl8]
      clear o8 gr8 hp8 hl8
      have hnn2 : nn ≤ 100 := by rw [Hnn.out]; omega
      go_wp2_with fail
      go_loopw [92] (fun i wr => ∃ (j : Nat), i = .int .i64 j ∧ j ≤ nn ∧ Hid (w8.grownBy wr none)) (fun i _ => nn - (intOf i).toNat)
      case atStart => exact ⟨0, rfl, by omega, Lib.hid (grown_refl _ _)⟩
      case round =>
        obtain ⟨j, rfl, hj, K⟩ := hrel
        by_cases hlt : j < nn
        · obtain ⟨b3, o3, rfl, _, c3'⟩ := (P8.out.keep K.out (fun k hk => by cases hk)).at (i := j) (by rw [Hrl.out, ← Hnn.out]; exact hlt)
          obtain ⟨b4, o4, rfl, _, c4'⟩ := (Q8.out.keep K.out (by simp)).at (i := j) (by rw [Hl8.out]; exact hlt)
          have hpb := (P8.out.keep K.out (fun k hk => by cases hk)).2.1 _ (pc_mem (i := j) (by rw [Hrl.out, ← Hnn.out]; exact hlt))
          have hqb := (Q8.out.keep K.out (by simp)).2.1 _ (pc_mem (i := j) (by rw [Hl8.out]; exact hlt))
          have hpq := HM.out j
          generalize rs.getD j default = p at *
          generalize (ps ++ qs).getD j default = q at *
          obtain ⟨pa, pc, pl⟩ := p
          obtain ⟨qa, qc, ql⟩ := q
          simp only at hpq
          subst hpq
          simp only [Pc.v] at c3' c4' hpb hqb
          have HC3 := Lib.hid (fun m => at_string (hpb.drewN m) pc)
          have HC4 := Lib.hid (fun m => at_string (hqb.drewN m) qc)
          clear hpb hqb
          generalize pl.length = pn at *
          go_wp2_with fail
          refine wp_region_quiet_lit (by kernel_rfl) (by kernel_rfl) ?_
          repeat (go_big_quiet_step (fail))
          refine quiet_convert (by rfl) _ _ _ (by rfl) (.string ⟨pl.toArray⟩) (fun w hw => ?_) ?_
          · obtain ⟨m, rfl⟩ := hw
            exact HC3.out m
          go_simp
          repeat (go_big_quiet_step (fail))
          refine quiet_convert (by rfl) _ _ _ (by rfl) (.string ⟨pl.toArray⟩) (fun w hw => ?_) ?_
          · obtain ⟨m, rfl⟩ := hw
            exact HC4.out m
          go_simp
          repeat (go_big_quiet_step (fail))
          refine wpQuiet_nil ?_
          intro nq
          rename_i KK hK
          refine hK _ _ ?_
          go_wp2_with fail
          go_roundw
          case rel => exact ⟨j + 1, by go_num, by omega, Lib.hid (grown_drewN K.out _)⟩
          case measure => simp [intOf]; try omega
        · obtain rfl : j = nn := by omega
          go_wp2_with fail
          go_ret
          exact ⟨rfl, K8.out.trans ((below_grown K.out).mono K8.out.size)⟩
set_option maxHeartbeats 1600000 in
theorem FrameLists_long (a c : Option Addr) (cap ccap na nc : Nat) (w : World) (ht : Turns w) (hl : 50 < na ∨ (na ≤ 50 ∧ 50 < nc)) :
    Calls Tryd.prog 9 #[.slice a na cap, .slice c nc ccap] w fun e w' => e = .returned (.bool true) ∧ Below w.heap.size w w' := by
  have HW := Lib.hid awake5_any
  have HT := Lib.hid ht
  clear ht
  have hl' : (50 : Int) < na ∨ ((na : Int) ≤ 50 ∧ (50 : Int) < nc) := by omega
  clear hl
  rcases hl' with h1 | ⟨h1, h2⟩
  all_goals
    go_enter Tryd.func9, Tryd.ntmps9
    go_wp2_with fail
    refine (HW.out _ HT.out).mono ?_
    rintro e w1 ⟨rfl, hb⟩
    have K1 := Lib.hid hb
    clear hb
    go_wp2_with fail
    refine (HW.out _ (HT.out.keep (grown_below K1.out none))).mono ?_
    rintro e w2 ⟨rfl, hb⟩
    have K2 := Lib.hid (K1.out.trans (hb.mono K1.out.size))
    clear hb
    go_wp2_with fail
    go_ret
    exact ⟨rfl, K2.out⟩
theorem FrameLists_any (G : Nat) (a c : Option Addr) (cap ccap : Nat) (ps qs : List Pc) (w : World) (hE : Sent3 G w ∧ ErrT G w ∧ G ≤ w.heap.size) (hF : SentF w) (ht : Turns w) (hP : PLow w.heap.size w a ps) (hQ : PLow w.heap.size w c qs)
    (hpn : ∀ p ∈ ps, p.a = none → p.cap = 0) (hqn : ∀ p ∈ qs, p.a = none → p.cap = 0) (han : a = none → cap = 0) (hcn : c = none → ccap = 0) :
    Calls Tryd.prog 9 #[.slice a ps.length cap, .slice c qs.length ccap] w fun e w' => e = .returned (.bool true) ∧ Below w.heap.size w w' := by
  by_cases h1 : ps.length ≤ 50
  · by_cases h2 : qs.length ≤ 50
    · exact FrameLists_short G a c cap ccap ps qs w hE hF ht hP hQ hpn hqn han hcn h1 h2
    · exact FrameLists_long a c cap ccap _ _ w ht (.inr ⟨h1, by omega⟩)
  · exact FrameLists_long a c cap ccap _ _ w ht (.inl (by omega))
end Go.Proofs.YthdaibmminibhaaDoor
