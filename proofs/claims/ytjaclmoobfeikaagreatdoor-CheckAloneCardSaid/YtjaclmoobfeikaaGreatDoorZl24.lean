/- What a text's query names: the program's way and the document's give the same names. The reader's lists: things with commas between. What is wrong with a query: the mathematics of check. -/
import Derived.Test.YtjaclmoobfeikaaGreatDoorZl17
import Derived.Test.YtjaclmoobfeikaaGreatDoorZl23
import Derived.Test.YtjaclmoobfeikaaGreatDoorZl16
namespace Go.Proofs.YtjaclmoobfeikaaGreatDoor

/-- A query whose parts name what they should. -/
structure Qry.wf (q : Qry) : Prop where
  items : ∀ x ∈ q.items, x.wf
  all : q.all = true → q.items = []
  cond : q.cond.wf
  group : ∀ x ∈ q.group, x.agg = 0 ∧ x.col ≠ ⟨#[]⟩
  order : ∀ x ∈ q.order, x.item.wf
/-- The predicates that stand in one, Kids ahead, as the program lists them. -/
def b8 (t : ByteArray) : Nm := t.data.toList
theorem b8_ne {t : ByteArray} : b8 t = [] ↔ t = ⟨#[]⟩ := by
  constructor
  · intro h
    cases t with
    | mk d => cases d with
      | mk l =>
        have h2 : l = [] := h
        rw [h2]
  · rintro rfl; rfl
mutual
/-- All that stand in a predicate, it too. -/
def Prd.alls : Prd → List Prd
  | .mk k c r v o l ks p => Prd.allsL ks ++ [.mk k c r v o l ks p]
def Prd.allsL : List Prd → List Prd
  | [] => []
  | x :: r => x.alls ++ Prd.allsL r
end
mutual
/-- The names that the document puts in, one by one. -/
def Prd.putN (l : List Nm) : Prd → List Nm
  | .mk _ c _ _ o _ ks _ => Prd.putNs (withN (withN l (b8 c)) (b8 o)) ks
def Prd.putNs (l : List Nm) : List Prd → List Nm
  | [] => l
  | x :: r => Prd.putNs (x.putN l) r
end
mutual
/-- The names in the order in which the document puts them in. -/
def Prd.seqN : Prd → List Nm
  | .mk _ c _ _ o _ ks _ => b8 c :: b8 o :: Prd.seqNs ks
def Prd.seqNs : List Prd → List Nm
  | [] => []
  | x :: r => x.seqN ++ Prd.seqNs r
end
mutual
theorem Prd.putN_eq (l : List Nm) : ∀ p : Prd, p.putN l = p.seqN.foldl withN l
  | .mk k c r v o ls ks pos => by
    rw [Prd.putN, Prd.seqN, List.foldl_cons, List.foldl_cons]
    exact Prd.putNs_eq _ ks
theorem Prd.putNs_eq (l : List Nm) : ∀ ks : List Prd, Prd.putNs l ks = (Prd.seqNs ks).foldl withN l
  | [] => rfl
  | x :: r => by
    rw [Prd.putNs, Prd.seqNs, List.foldl_append, ← Prd.putN_eq l x]
    exact Prd.putNs_eq _ r
end
mutual
theorem Prd.nms_mem : ∀ p : Prd, p.wf → ∀ z, z ≠ [] → ((∃ x ∈ p.alls, ∃ c ∈ x.nms, b8 c = z) ↔ z ∈ p.seqN)
  | .mk k c r v o ls ks pos, h, z, hz => by
    have ih := Prd.nmsL_mem ks h.2 z hz
    rw [Prd.alls, Prd.seqN]
    have own : (∃ d ∈ Prd.nms (.mk k c r v o ls ks pos), b8 d = z) ↔ z = b8 c ∨ z = b8 o := by
      obtain ⟨h1, h2, h3⟩ := h.1
      have hn : Prd.nms (.mk k c r v o ls ks pos) = if k = 3 ∨ k = 5 ∨ k = 6 ∨ k = 7 then [c] else if k = 4 then [c, o] else [] := rfl
      rw [hn]
      by_cases k1 : k = 3 ∨ k = 5 ∨ k = 6 ∨ k = 7
      · rw [if_pos k1]
        have := (h1 k1).2
        constructor
        · rintro ⟨d, hd, rfl⟩
          rw [List.mem_singleton] at hd
          exact .inl (by rw [hd])
        · rintro (e | e)
          · exact ⟨c, by simp, e.symm⟩
          · rw [this] at e; exact absurd e hz
      · rw [if_neg k1]
        by_cases k2 : k = 4
        · rw [if_pos k2]
          constructor
          · rintro ⟨d, hd, rfl⟩
            rw [List.mem_cons, List.mem_singleton] at hd
            rcases hd with rfl | rfl
            · exact .inl rfl
            · exact .inr rfl
          · rintro (e | e)
            · exact ⟨c, by simp, e.symm⟩
            · exact ⟨o, by simp, e.symm⟩
        · rw [if_neg k2]
          have h4 := h3 (by omega)
          constructor
          · rintro ⟨d, hd, _⟩; cases hd
          · rintro (e | e)
            · rw [h4.1] at e; exact absurd e hz
            · rw [h4.2] at e; exact absurd e hz
    rw [List.mem_cons, List.mem_cons]
    constructor
    · rintro ⟨x, hx, hc⟩
      rcases List.mem_append.1 hx with e | e
      · exact .inr (.inr (ih.1 ⟨x, e, hc⟩))
      · obtain rfl := List.mem_singleton.1 e
        rcases own.1 hc with e | e
        · exact .inl e
        · exact .inr (.inl e)
    · rintro (e | e | e)
      · exact ⟨_, List.mem_append.2 (.inr (List.mem_singleton.2 rfl)), own.2 (.inl e)⟩
      · exact ⟨_, List.mem_append.2 (.inr (List.mem_singleton.2 rfl)), own.2 (.inr e)⟩
      · obtain ⟨x, hx, hc⟩ := ih.2 e
        exact ⟨x, List.mem_append.2 (.inl hx), hc⟩
theorem Prd.nmsL_mem : ∀ ks : List Prd, Prd.wfs ks → ∀ z, z ≠ [] → ((∃ x ∈ Prd.allsL ks, ∃ c ∈ x.nms, b8 c = z) ↔ z ∈ Prd.seqNs ks)
  | [], _, z, _ => by simp [Prd.allsL, Prd.seqNs]
  | x :: r, h, z, hz => by
    have i1 := Prd.nms_mem x h.1 z hz
    have i2 := Prd.nmsL_mem r h.2 z hz
    rw [Prd.allsL, Prd.seqNs, List.mem_append, ← i1, ← i2]
    constructor
    · rintro ⟨y, hy, hc⟩
      rcases List.mem_append.1 hy with e | e
      · exact .inl ⟨y, e, hc⟩
      · exact .inr ⟨y, e, hc⟩
    · rintro (⟨y, e, hc⟩ | ⟨y, e, hc⟩)
      · exact ⟨y, List.mem_append.2 (.inl e), hc⟩
      · exact ⟨y, List.mem_append.2 (.inr e), hc⟩
end
/-- An item's name, if it names one. -/
def Itm.nms (x : Itm) : List ByteArray := if x.agg = 1 then [] else [x.col]
/-- The names that the program lists: the items', the keys', the group's, then the predicates'. -/
def Qry.listN (q : Qry) : List ByteArray :=
  ((if q.all = true then [] else q.items) ++ q.order.map Kyo.item ++ q.group).flatMap Itm.nms ++ q.cond.alls.flatMap Prd.nms
/-- The names in the order in which the document puts them in. -/
def Qry.seqN (q : Qry) : List Nm := q.cond.seqN ++ (q.items ++ q.group ++ q.order.map Kyo.item).map fun x => b8 x.col
theorem Itm.wf.nms {x : Itm} (h : x.wf) (z : Nm) (hz : z ≠ []) : (∃ c ∈ x.nms, b8 c = z) ↔ b8 x.col = z := by
  unfold Itm.nms
  by_cases hx : x.agg = 1
  · rw [if_pos hx, h.2 hx]
    constructor
    · rintro ⟨c, hc, _⟩; cases hc
    · intro e; exact absurd e.symm hz
  · rw [if_neg hx]; simp
theorem Qry.wf.named {q : Qry} (h : q.wf) (z : Nm) (hz : z ≠ []) : z ∈ q.listN.map b8 ↔ z ∈ q.seqN := by
  have hi : (if q.all = true then [] else q.items) = q.items := by
    split
    · rename_i ha; exact (h.all ha).symm
    · rfl
  have hg : ∀ x ∈ q.group, x.wf := fun x hx => ⟨fun _ => (h.group x hx).2, fun e => by rw [(h.group x hx).1] at e; cases e⟩
  have ho : ∀ x ∈ q.order.map Kyo.item, x.wf := fun x hx => by
    obtain ⟨k, hk, rfl⟩ := List.mem_map.1 hx
    exact h.order k hk
  have hc := Prd.nms_mem q.cond h.cond z hz
  rw [Qry.seqN, List.mem_append, ← hc, Qry.listN, hi, List.map_append, List.mem_append]
  constructor
  · rintro (e | e)
    · obtain ⟨c, hcm, e2⟩ := List.mem_map.1 e
      obtain ⟨x, hx, hxc⟩ := List.mem_flatMap.1 hcm
      have hw : x.wf := by
        rcases List.mem_append.1 hx with e | e
        · rcases List.mem_append.1 e with e | e
          · exact h.items x e
          · exact ho x e
        · exact hg x e
      refine .inr (List.mem_map.2 ⟨x, ?_, (hw.nms z hz).1 ⟨c, hxc, e2⟩⟩)
      rw [List.mem_append, List.mem_append] at hx ⊢
      rcases hx with (e | e) | e
      · exact .inl (.inl e)
      · exact .inr e
      · exact .inl (.inr e)
    · obtain ⟨c, hcm, e2⟩ := List.mem_map.1 e
      obtain ⟨x, hx, hxc⟩ := List.mem_flatMap.1 hcm
      exact .inl ⟨x, hx, c, hxc, e2⟩
  · rintro (⟨x, hx, c, hxc, e2⟩ | e)
    · exact .inr (List.mem_map.2 ⟨c, List.mem_flatMap.2 ⟨x, hx, hxc⟩, e2⟩)
    · obtain ⟨x, hx, e2⟩ := List.mem_map.1 e
      have hw : x.wf := by
        rcases List.mem_append.1 hx with e | e
        · rcases List.mem_append.1 e with e | e
          · exact h.items x e
          · exact hg x e
        · exact ho x e
      obtain ⟨c, hxc, e3⟩ := (hw.nms z hz).2 e2
      refine .inl (List.mem_map.2 ⟨c, List.mem_flatMap.2 ⟨x, ?_, hxc⟩, e3⟩)
      rw [List.mem_append, List.mem_append] at hx ⊢
      rcases hx with (e | e) | e
      · exact .inl (.inl e)
      · exact .inr e
      · exact .inl (.inr e)
theorem Prd.own_ne {x : Prd} (h : x.own) : ∀ c ∈ x.nms, c ≠ ⟨#[]⟩ := by
  cases x with
  | mk k c r v o l ks p =>
    obtain ⟨h1, h2, _⟩ := h
    have hn : Prd.nms (.mk k c r v o l ks p) = if k = 3 ∨ k = 5 ∨ k = 6 ∨ k = 7 then [c] else if k = 4 then [c, o] else [] := rfl
    rw [hn]
    intro d hd
    by_cases k1 : k = 3 ∨ k = 5 ∨ k = 6 ∨ k = 7
    · rw [if_pos k1] at hd
      obtain rfl := List.mem_singleton.1 hd
      exact (h1 k1).1
    · rw [if_neg k1] at hd
      by_cases k2 : k = 4
      · rw [if_pos k2] at hd
        rw [List.mem_cons, List.mem_singleton] at hd
        rcases hd with rfl | rfl
        · exact (h2 k2).1
        · exact (h2 k2).2
      · rw [if_neg k2] at hd; cases hd
mutual
theorem Prd.alls_own : ∀ p : Prd, p.wf → ∀ x ∈ p.alls, x.own
  | .mk k c r v o l ks p, h, x, hx => by
    rw [Prd.alls] at hx
    rcases List.mem_append.1 hx with e | e
    · exact Prd.allsL_own ks h.2 x e
    · obtain rfl := List.mem_singleton.1 e
      exact h.1
theorem Prd.allsL_own : ∀ ks : List Prd, Prd.wfs ks → ∀ x ∈ Prd.allsL ks, x.own
  | [], _, x, hx => by cases hx
  | y :: r, h, x, hx => by
    rw [Prd.allsL] at hx
    rcases List.mem_append.1 hx with e | e
    · exact Prd.alls_own y h.1 x e
    · exact Prd.allsL_own r h.2 x e
end
theorem Qry.wf.some {q : Qry} (h : q.wf) : ([] : Nm) ∉ q.listN.map b8 := by
  intro e
  obtain ⟨c, hc, e2⟩ := List.mem_map.1 e
  have e3 := b8_ne.1 e2
  unfold Qry.listN at hc
  rcases List.mem_append.1 hc with hc | hc
  · obtain ⟨x, hx, hxc⟩ := List.mem_flatMap.1 hc
    have hw : x.wf := by
      rcases List.mem_append.1 hx with e | e
      · rcases List.mem_append.1 e with e | e
        · refine h.items x ?_
          split at e
          · cases e
          · exact e
        · obtain ⟨k, hk, rfl⟩ := List.mem_map.1 e
          exact h.order k hk
      · exact ⟨fun _ => (h.group x e).2, fun e2 => by rw [(h.group x e).1] at e2; cases e2⟩
    unfold Itm.nms at hxc
    split at hxc
    · cases hxc
    · rename_i ha
      obtain rfl := List.mem_singleton.1 hxc
      exact hw.1 ha e3
  · obtain ⟨x, hx, hxc⟩ := List.mem_flatMap.1 hc
    exact Prd.own_ne (Prd.alls_own _ h.cond x hx) c hxc e3
end Go.Proofs.YtjaclmoobfeikaaGreatDoor
namespace Go.Proofs.YtjaclmoobfeikaaGreatDoor
open Go.RowKit

/-- The rest of a list, behind k things. -/
def restL {β : Type} (most : Nat) (nx : RS → RS × β) (k : Nat) (st : RS) (acc : List β) : RS × List β :=
  if k = 0 then listF most nx (most + 1) st acc
  else if st.comes bComma then listF most nx (most + 1 - k) st.pass acc else (st, acc)
theorem listF_step {β : Type} (most : Nat) (nx : RS → RS × β) (k : Nat) (st : RS) (acc : List β) (hk : acc.length = k) (h : k < most) :
    listF most nx (most + 1 - k) st acc = restL most nx (k + 1) (nx st).1 (acc ++ [(nx st).2]) := by
  obtain ⟨f, hf⟩ : ∃ f, most + 1 - k = f + 1 := ⟨most - k, by omega⟩
  rw [hf, listF, if_neg (by omega)]
  unfold restL
  rw [if_neg (show ¬ k + 1 = 0 by omega), show most + 1 - (k + 1) = f by omega]
theorem listF_full {β : Type} (most : Nat) (nx : RS → RS × β) (st : RS) (acc : List β) (hk : acc.length = most) :
    listF most nx (most + 1 - most) st acc = (st.wrong 3, acc) := by
  rw [show most + 1 - most = 0 + 1 by omega, listF, if_pos hk]
set_option maxRecDepth 100000 in
set_option maxHeartbeats 1600000 in
theorem plist_any {β : Type} (R b deep most N : Nat) (p q : Value) (nx : RS → RS × β) (J : World → List β → Prop) (s : RS) (w : World) (h : RdA R b deep s w) (hj : J w []) (hm : most ≤ 100) (hm1 : 1 ≤ most)
    (hJ : ∀ W W' acc, J W acc → W.grownBy W' (some R) → J W' acc)
    (hE : ∀ args W, Sem.run Tryz.prog (callFunc N args) W = .ok (.enter N args) W)
    (hN : ∀ W st acc, RdA R b deep st W → J W acc → acc.length < most → Calls Tryz.prog N #[p, q] W fun e w' => e = .returned (.tuple #[]) ∧ RdA R b deep (nx st).1 w' ∧ J w' (acc ++ [(nx st).2])) :
    Calls Tryz.prog 53 #[.pointer (some ⟨R, 0, none⟩), .int .i64 most, .func (.func N) #[] #[p, q]] w fun e w' => e = .returned (.tuple #[]) ∧ RdA R b deep (listF most nx (most + 1) s []).1 w' ∧ J w' (listF most nx (most + 1) s []).2 := by
  have HN := Lib.hid hN
  have HJ := Lib.hid hJ
  have H0 := Lib.hid (And.intro h hj)
  have HT := Lib.hid (fun st W (hW : RdA R b deep st W) => took_any R b deep st bComma W hW (by decide))
  have HW := Lib.hid (fun st W (hW : RdA R b deep st W) => wrong_any R b deep st 3 W hW)
  obtain ⟨r, hr⟩ : ∃ r, r = listF most nx (most + 1) s [] := ⟨_, rfl⟩
  rw [← hr]
  have Hr := Lib.hid hr
  have m1 : (1 : Int) ≤ most := by omega
  have m2 : (most : Int) ≤ 100 := by omega
  clear h hj hJ hN hr
  go_enter Tryz.func53, Tryz.ntmps53
  go_wp2_with fail
  go_loopw [6] (fun s6 wr => ∃ k : Nat, s6 = .int .i64 k ∧ k ≤ most ∧ Hid (∃ st acc, RdA R b deep st wr ∧ J wr acc ∧ acc.length = k ∧ r = restL most nx k st acc)) (fun s6 _ => most + 1 - (intOf s6).toNat)
  case atStart => exact ⟨0, rfl, by omega, Lib.hid ⟨s, [], H0.out.1, H0.out.2, rfl, by rw [Hr.out]; unfold restL; rw [if_pos rfl]⟩⟩
  case round =>
    obtain ⟨k, rfl, hk, K⟩ := hrel
    obtain ⟨st, acc, hR, hA, hl, hrr⟩ := K.out
    by_cases h0 : k = 0
    · subst h0
      have HN1 := Lib.hid (HN.out wr st acc hR hA (by omega))
      have hrr2 : r = restL most nx 1 (nx st).1 (acc ++ [(nx st).2]) := by
        rw [hrr]; unfold restL; rw [if_pos rfl]
        exact listF_step most nx 0 st acc hl (by omega)
      have H2 := Lib.hid (And.intro hl hrr2)
      have z1 : ((0 : Int) == most) = false := by rw [beq_eq_false_iff_ne]; omega
      clear hR hA hl hrr hrr2 K
      go_wp2_with fail
      refine HN1.out.mono ?_
      rintro e w2 ⟨rfl, hR2, hA2⟩
      have H3 := Lib.hid (And.intro hR2 hA2)
      clear hR2 hA2
      go_wp2_with fail
      go_roundw
      case rel => exact ⟨1, by go_num, by omega, Lib.hid ⟨_, _, H3.out.1, H3.out.2, by simp [H2.out.1], H2.out.2⟩⟩
      case measure => simp [intOf]
    · have HT1 := Lib.hid (HT.out st wr hR)
      have k0 : ((k : Int) == 0) = false := by rw [beq_eq_false_iff_ne]; omega
      have k1 : (1 : Int) ≤ k := by omega
      cases hc : st.comes bComma with
      | false =>
        rw [hc] at HT1
        simp only [Bool.false_eq_true, if_false] at HT1
        have H2 := Lib.hid (show r = (st, acc) by
          rw [hrr]; unfold restL; rw [if_neg h0, if_neg (by simp [hc])])
        have HA := Lib.hid hA
        clear hR hA hl hrr hc K h0
        go_wp2_with fail
        refine HT1.out.mono ?_
        rintro e w2 ⟨rfl, hg⟩
        have G := Lib.hid hg
        clear hg
        go_wp2_with fail
        go_end0
        rw [H2.out]
        exact ⟨rfl, G.out.1, HJ.out _ _ _ HA.out G.out.2⟩
      | true =>
        rw [hc] at HT1
        simp only [if_true] at HT1
        have HA := Lib.hid hA
        have hrr2 : r = listF most nx (most + 1 - k) st.pass acc := by rw [hrr]; unfold restL; rw [if_neg h0, if_pos hc]
        have Hl := Lib.hid hl
        by_cases hm : k = most
        · subst hm
          have H2 := Lib.hid (hrr2.trans (listF_full k nx st.pass acc hl))
          clear hR hA hl hrr hrr2 hc K h0
          go_wp2_with fail
          refine HT1.out.mono ?_
          rintro e w2 ⟨rfl, hg⟩
          have G := Lib.hid hg
          clear hg
          go_wp2_with fail
          refine (HW.out _ _ G.out.1).mono ?_
          rintro e w3 ⟨rfl, hg3⟩
          have G3 := Lib.hid hg3
          clear hg3
          go_wp2_with fail
          refine bodyPost_ret (results_none rfl _ _ _) rfl ?_
          rw [H2.out]
          exact ⟨rfl, G3.out.1, HJ.out _ _ _ (HJ.out _ _ _ HA.out G.out.2) G3.out.2⟩
        · have H2 := Lib.hid (hrr2.trans (listF_step most nx k st.pass acc hl (by omega)))
          have km : ((k : Int) == most) = false := by rw [beq_eq_false_iff_ne]; omega
          clear hR hA hl hrr hrr2 hc K h0
          go_wp2_with fail
          refine HT1.out.mono ?_
          rintro e w2 ⟨rfl, hg⟩
          have G := Lib.hid hg
          have HN1 := Lib.hid (HN.out w2 st.pass acc hg.1 (HJ.out _ _ _ HA.out hg.2) (by have := Hl.out; omega))
          clear hg
          go_wp2_with fail
          refine HN1.out.mono ?_
          rintro e w3 ⟨rfl, hR2, hA2⟩
          have H3 := Lib.hid (And.intro hR2 hA2)
          clear hR2 hA2
          go_wp2_with fail
          go_roundw
          case rel => exact ⟨k + 1, by go_num, by omega, Lib.hid ⟨_, _, H3.out.1, H3.out.2, by simp [Hl.out], H2.out⟩⟩
          case measure => simp [intOf]; omega
end Go.Proofs.YtjaclmoobfeikaaGreatDoor
namespace Go.Proofs.YtjaclmoobfeikaaGreatDoor

/-- The kind of the first column of a name. -/
def colK (cs : List Cl) (M : ByteArray) : Option Int := (cs.find? fun c => c.n.toList == M.toList).map Cl.k
theorem find_at {α : Type} [Inhabited α] (f : α → Bool) : ∀ (l : List α) (k : Nat), k < l.length → (∀ i, i < k → f (l.getD i default) = false) → f (l.getD k default) = true → l.find? f = some (l.getD k default)
  | [], k, h, _, _ => by simp at h
  | x :: r, 0, _, _, h => by
    have h' : f x = true := by simpa using h
    simp [List.find?, h']
  | x :: r, k + 1, h, h1, h2 => by
    have h0 : f x = false := by simpa using h1 0 (by omega)
    have := find_at f r k (by simpa using h) (fun i hi => by simpa using h1 (i + 1) (by omega)) (by simpa using h2)
    simpa [List.find?, h0] using this
theorem find_no {α : Type} [Inhabited α] (f : α → Bool) : ∀ (l : List α), (∀ i, i < l.length → f (l.getD i default) = false) → l.find? f = none
  | [], _ => rfl
  | x :: r, h => by
    have h0 : f x = false := by simpa using h 0 (by simp)
    have := find_no f r (fun i hi => by simpa using h (i + 1) (by simpa using hi))
    simpa [List.find?, h0] using this
theorem colK_of {M : ByteArray} {l : List Cl} {r : Int} (h : IxIs M l r) : (r = -1 ∧ colK l M = none) ∨ ∃ k : Nat, r = k ∧ k < l.length ∧ colK l M = some (l.getD k default).k := by
  rcases h with ⟨h1, h2⟩ | ⟨k, h1, h2, h3, h4⟩
  · exact .inl ⟨h1, by unfold colK; rw [find_no (fun c : Cl => c.n.toList == M.toList) l h2]; rfl⟩
  · exact .inr ⟨k, h1, h2, by unfold colK; rw [find_at (fun c : Cl => c.n.toList == M.toList) l k h2 h4 h3]; rfl⟩
/-- The first table of a name. -/
def tabN (l : List Tb) (M : ByteArray) : Option Tb := l.find? fun t => t.n.toList == M.toList
theorem tabN_of {M : ByteArray} {l : List Tb} {r : Int} (h : TxIs M l r) : (r = -1 ∧ tabN l M = none) ∨ ∃ k : Nat, r = k ∧ k < l.length ∧ tabN l M = some (l.getD k default) := by
  rcases h with ⟨h1, h2⟩ | ⟨k, h1, h2, h3, h4⟩
  · exact .inl ⟨h1, find_no (fun t : Tb => t.n.toList == M.toList) l h2⟩
  · exact .inr ⟨k, h1, h2, find_at (fun t : Tb => t.n.toList == M.toList) l k h2 h4 h3⟩
/-- The place, and the number, of the first that is wrong. -/
def firstE {α : Type} (pl : α → Nat) (f : α → Nat) : List α → Option (Nat × Nat)
  | [] => none
  | x :: r => if f x = 0 then firstE pl f r else some (pl x, f x)
theorem firstE_drop {α : Type} [Inhabited α] (pl : α → Nat) (f : α → Nat) (l : List α) (k : Nat) (h : k < l.length) : firstE pl f (l.drop k) = if f (l.getD k default) = 0 then firstE pl f (l.drop (k + 1)) else some (pl (l.getD k default), f (l.getD k default)) := by
  rw [List.drop_eq_getElem_cons h, firstE, List.getD_eq_getElem?_getD, List.getElem?_eq_getElem h]
  rfl
/-- What is wrong with an item, by its number. -/
def itemE (cs : List Cl) (x : Itm) : Nat :=
  if x.agg = 1 then 0 else match colK cs x.col with
    | none => 15
    | some k => if x.agg = 3 ∧ k ≠ 2 then 16 else 0
def itemsE (cs : List Cl) (l : List Itm) : Option (Nat × Nat) := firstE Itm.pos (itemE cs) l
def Prd.lits : Prd → List Vl
  | .mk k _ _ v _ l _ _ => if k = 3 then [v] else if k = 11 then v :: l else if k = 5 then l else []
/-- The kinds of names, if all are there. -/
def kindsN (cs : List Cl) : List ByteArray → Option (List Int)
  | [] => some []
  | c :: r => match colK cs c with
    | none => none
    | some k => (kindsN cs r).map (k :: ·)
/-- Do two kinds that stand beside each other differ? -/
def clashB : List Int → Bool
  | [] => false
  | [_] => false
  | a :: b :: r => decide (a ≠ b) || clashB (b :: r)
theorem clashB_iff : ∀ ks : List Int, clashB ks = true ↔ ∃ i, i + 1 < ks.length ∧ ks.getD i 0 ≠ ks.getD (i + 1) 0
  | [] => by simp [clashB]
  | [a] => by simp [clashB]
  | a :: b :: r => by
    rw [clashB, Bool.or_eq_true, clashB_iff (b :: r), decide_eq_true_iff]
    constructor
    · rintro (h | ⟨i, h1, h2⟩)
      · exact ⟨0, by simp, h⟩
      · exact ⟨i + 1, by simpa using h1, by simpa using h2⟩
    · rintro ⟨i, h1, h2⟩
      cases i with
      | zero => exact .inl h2
      | succ i => exact .inr ⟨i, by simpa using h1, by simpa using h2⟩
def litKs (l : List Vl) : List Int := (l.map Vl.k).filter fun k => decide (k ≠ 0)
def aloneE (cs : List Cl) (x : Prd) : Nat := match kindsN cs x.nms with
  | none => 15
  | some ks => if clashB (ks ++ litKs x.lits) = true then 16 else 0
def whereE (cs : List Cl) (x : Prd) : Option (Nat × Nat) := firstE Prd.pos (aloneE cs) x.alls
def amongB (l : List Itm) (c : ByteArray) : Bool := l.any fun y => decide (y.col = c)
def groupE (cs : List Cl) (b : List Itm) : List Itm → Option (Nat × Nat)
  | [] => none
  | x :: r => if colK cs x.col = none then some (x.pos, 15) else if amongB b x.col = true then some (x.pos, 23) else groupE cs (b ++ [x]) r
theorem groupE_drop (cs : List Cl) (l : List Itm) (k : Nat) (h : k < l.length) : groupE cs (l.take k) (l.drop k) = if colK cs (l.getD k default).col = none then some ((l.getD k default).pos, 15) else if amongB (l.take k) (l.getD k default).col = true then some ((l.getD k default).pos, 23) else groupE cs (l.take (k + 1)) (l.drop (k + 1)) := by
  rw [List.drop_eq_getElem_cons h, groupE, List.getD_eq_getElem?_getD, List.getElem?_eq_getElem h, List.take_add_one, List.getElem?_eq_getElem h]
  rfl
def Qry.asked (q : Qry) : List Itm := q.items ++ q.order.map Kyo.item
def Qry.grouped (q : Qry) : Bool := decide (0 < q.group.length) || q.asked.any fun x => decide (x.agg ≠ 0)
def strayE (q : Qry) (x : Itm) : Nat := if x.agg = 0 ∧ amongB q.group x.col = false then 17 else 0
def groupingE (q : Qry) : Option (Nat × Nat) :=
  if q.grouped = true then (if q.all = true then some (0, 17) else firstE Itm.pos (strayE q) q.asked) else none
def reviewE (cs : List Cl) (q : Qry) : Option (Nat × Nat) :=
  match itemsE cs q.items with
  | some e => some e
  | none => match whereE cs q.cond with
    | some e => some e
    | none => match groupE cs [] q.group with
      | some e => some e
      | none => match itemsE cs (q.order.map Kyo.item) with
        | some e => some e
        | none => groupingE q
def Qry.spelt (cs : List Cl) (q : Qry) : Qry := if q.all = true then { q with items := cs.map fun c => ⟨0, c.n, 0⟩ } else q
/-- The query that was checked, or the place and the number of what is wrong. -/
def checkE (l : List Tb) (q : Qry) : Except (Nat × Nat) Qry := match tabN l q.table with
  | none => .error (0, 14)
  | some t => match reviewE t.l q with
    | some e => .error e
    | none => .ok (q.spelt t.l)
theorem kindsN_snoc (cs : List Cl) (c : ByteArray) : ∀ l : List ByteArray, kindsN cs (l ++ [c]) = match kindsN cs l with
    | none => none
    | some ks => (colK cs c).map fun k => ks ++ [k]
  | [] => by
    simp only [List.nil_append, kindsN]
    cases colK cs c <;> rfl
  | a :: r => by
    rw [List.cons_append, kindsN, kindsN, kindsN_snoc cs c r]
    cases colK cs a with
    | none => rfl
    | some k =>
      cases kindsN cs r with
      | none => rfl
      | some ks => cases colK cs c <;> rfl
/-- The numbers that may be told. -/
def isCk (c : Nat) : Prop := c = 14 ∨ c = 15 ∨ c = 16 ∨ c = 17 ∨ c = 23
theorem firstE_code {α : Type} (pl : α → Nat) (f : α → Nat) (P : Nat → Prop) (h : ∀ x, f x ≠ 0 → P (f x)) : ∀ l e, firstE pl f l = some e → P e.2
  | [], e, he => by cases he
  | x :: r, e, he => by
    rw [firstE] at he
    split at he
    · exact firstE_code pl f P h r e he
    · cases he; exact h x ‹_›
end Go.Proofs.YtjaclmoobfeikaaGreatDoor
