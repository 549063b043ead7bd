import Derived.Test.YtpklajadfbigcaaGreatDoorZt37
import Derived.Test.YtpklajadfbigcaaGreatDoorZt02
import Derived.Test.YtpklajadfbigcaaGreatDoorZt08
import Derived.Test.YtpklajadfbigcaaGreatDoorZt09
import Derived.Test.YtpklajadfbigcaaGreatDoorZt32
import Derived.Test.YtpklajadfbigcaaGreatDoorZt19
import Derived.Test.YtpklajadfbigcaaGreatDoorZt35
set_option linter.unusedSimpArgs false
set_option linter.unusedVariables false
namespace Go.Proofs.YtpklajadfbigcaaGreatDoor
open Go.RowKit
set_option linter.unusedVariables false
def vlV (v : Vv) : Vl := ⟨v.k, v.n, v.s⟩
def colV (M : ByteArray) (l : List Cl) (r : List Vv) (d : Vl) : Vl := if colN M l < l.length then vlV (r.getD (colN M l) default) else d
mutual
def Prd.w2 : Prd → Prop
  | .mk k _ _ _ _ _ ks _ => (k = 10 → ks ≠ []) ∧ Prd.w2s ks
def Prd.w2s : List Prd → Prop
  | [] => True
  | x :: r => x.w2 ∧ Prd.w2s r
end
end Go.Proofs.YtpklajadfbigcaaGreatDoor
namespace Go.Proofs.YtpklajadfbigcaaGreatDoor
open Go.RowKit
set_option linter.unusedVariables false
set_option linter.unusedSimpArgs false
def Vl.fine (v : Vl) : Prop := v.good = true ∧ v.s.size ≤ 60
theorem fine_z : Vl.fine ⟨0, 0, ⟨#[]⟩⟩ := ⟨by decide +kernel, by decide⟩
theorem fine_i (n : Int) : Vl.fine ⟨2, n, ⟨#[]⟩⟩ := by
  refine ⟨?_, by show 0 ≤ 60; decide⟩
  show goodB 2 n ⟨#[]⟩ = true
  have e : (⟨#[]⟩ : ByteArray).toList.isEmpty = true := by decide +kernel
  simp [goodB, e]
mutual
def Prd.gd : Prd → Prop
  | .mk k _ _ v _ ls ks _ => v.fine ∧ (∀ x ∈ ls, x.fine) ∧ ls.length ≤ 12 ∧ (k = 10 → ks ≠ []) ∧ Prd.gds ks
def Prd.gds : List Prd → Prop
  | [] => True
  | x :: r => x.gd ∧ Prd.gds r
end
end Go.Proofs.YtpklajadfbigcaaGreatDoor
namespace Go.Proofs.YtpklajadfbigcaaGreatDoor
open Go.RowKit
set_option linter.unusedVariables false
set_option linter.unusedSimpArgs false
def bE : ByteArray := ⟨#[]⟩
def vlZ : Vl := ⟨0, 0, ⟨#[]⟩⟩
mutual
def Prd.g3 : Prd → Prop
  | .mk k _ _ v o _ ks _ => k ≤ 11 ∧ (k = 3 → o = bE) ∧ (k = 4 → v = vlZ) ∧ (k = 10 → ks.length = 1) ∧ Prd.g3s ks
def Prd.g3s : List Prd → Prop
  | [] => True
  | x :: r => x.g3 ∧ Prd.g3s r
end
theorem colV_hit {M : ByteArray} {l : List Cl} {r : List Vv} {d : Vl} (h : colN M l < l.length) : colV M l r d = vlV (r.getD (colN M l) default) := if_pos h
theorem colV_no {M : ByteArray} {l : List Cl} {r : List Vv} {d : Vl} (h : ¬ colN M l < l.length) : colV M l r d = d := if_neg h
theorem Win.ints {w : World} {a : Option Addr} {cap n : Nat} {l : List Int} (h : Win 1 w a cap n (l.map (Value.int .i64))) : IntsAt .i64 w a l := by
  have hn : l.length = n := by have := h.len; simpa using this
  refine ⟨by have := h.le; have := h.max; unfold maxLen at this; omega, ?_⟩
  rcases h.mem with h0 | ⟨g, off, e, hc, _⟩
  · exact .inl (List.eq_nil_of_length_eq_zero (by have := h.le; omega))
  · refine .inr ⟨g, off, e, h.lt g (by rw [e, bk_some]), fun i hi => hc i _ ?_⟩
    rw [List.getElem?_map, List.getElem?_eq_getElem hi, List.getD, List.getElem?_eq_getElem hi]; rfl
theorem Vl.fine.len {x : Vl} (h : x.fine) : x.s.size ≤ maxLen := by have := h.2; unfold maxLen; omega
end Go.Proofs.YtpklajadfbigcaaGreatDoor
namespace Go.Proofs.YtpklajadfbigcaaGreatDoor
open Go.RowKit
set_option linter.unusedVariables false
set_option linter.unusedSimpArgs false
theorem VvAt.row {B : Nat} {w : World} {a : Option Addr} {r : List Vv} (h : VvAt B w a r) (hB : B ≤ w.heap.size) (hf : ∀ v ∈ r, (vlV v).fine) : RowAt w a (r.map vlV) := by
  have hd : ∀ i, (r.map vlV).getD i default = vlV (r.getD i default) := fun i => by
    rw [List.getD_eq_getElem?_getD, List.getD_eq_getElem?_getD, List.getElem?_map]
    cases r[i]? <;> rfl
  refine ⟨by rw [List.length_map]; exact h.1, fun x hx => ?_, ?_⟩
  · obtain ⟨v, hv, rfl⟩ := List.mem_map.1 hx
    exact (hf v hv).len
  · rcases h.2 with rfl | ⟨b, off, e, hlt, hc⟩
    · exact .inl rfl
    · refine .inr ⟨b, off, e, by omega, fun i hi => ?_⟩
      rw [hd]
      exact hc i (by simpa using hi)
set_option maxRecDepth 100000 in
theorem nth_any (a : Option Addr) (cap : Nat) (l : List Vl) (k : Nat) (w : World) (h : RowAt w a l) :
    Calls Tryz.prog 74 #[.slice a l.length cap, .int .i64 k] w fun e w' => e = .returned (.agg #[.int .i64 (l.getD k default).k, .int .i64 (l.getD k default).n, .string (l.getD k default).s]) ∧ w.grownBy w' none := by
  have HA := Lib.hid (heap_alloc_new w (.cells #[.int .i64 0, .int .i64 0, .string ⟨#[]⟩] 37))
  have GA := Lib.hid (World.grownBy_alloc w (.cells #[.int .i64 0, .int .i64 0, .string ⟨#[]⟩] 37) none)
  obtain ⟨⟨a0, a1, a2⟩, a3, a4, a5⟩ := three_of HA.out
  have hmax := h.1
  by_cases hlt : k < l.length
  · obtain ⟨b, off, rfl, hb, c0, c1, c2⟩ := h.at hlt
    have d0 := GA.out.cell c0 (by simp)
    have d1 := GA.out.cell c1 (by simp)
    have d2 := GA.out.cell c2 (by simp)
    generalize l.getD k default = x at *
    obtain ⟨xk, xn, xs⟩ := x
    dsimp only at *
    generalize l.length = n at *
    have i0 : (0 : Int) ≤ k := by omega
    have i1 : (k : Int) < n := by omega
    have i2 : ¬ (n : Int) ≤ k := by omega
    clear h c0 c1 c2 hb
    go_enter Tryz.func74, Tryz.ntmps74
    go_wp2_with fail
    exact bodyPost_ret (results_cell_row rfl _ _ w.heap.size 37 #[.int .i64 xk, .int .i64 xn, .string xs] (0, 0) _ rfl (heap_alloc_new w _) Tryz.underlying37 rfl (by kernel_rfl)) rfl ⟨rfl, World.grownBy_alloc w _ none⟩
  · have e : l.getD k default = ⟨0, 0, ⟨#[]⟩⟩ := by rw [List.getD_eq_getElem?_getD, List.getElem?_eq_none (by omega)]; rfl
    rw [e]
    dsimp only
    generalize l.length = n at *
    have i2 : (n : Int) ≤ k := by omega
    clear h hlt e
    go_enter Tryz.func74, Tryz.ntmps74
    go_wp2_with fail
    exact bodyPost_ret (results_cell_row rfl _ _ w.heap.size 37 #[.int .i64 0, .int .i64 0, .string ⟨#[]⟩] (0, 0) _ rfl (heap_alloc_new w _) Tryz.underlying37 rfl (by kernel_rfl)) rfl ⟨rfl, World.grownBy_alloc w _ none⟩
set_option maxRecDepth 100000 in
theorem colval_any (b : Nat) (cs : List Cl) (a : Option Addr) (cap : Nat) (rv : List Vv) (M : ByteArray) (w : World) (hM : MapC w b cs) (h : VvAt w.heap.size w a rv) (hf : ∀ v ∈ rv, (vlV v).fine) (hlen : rv.length = cs.length) (hs : M.size ≤ maxLen) :
    Calls Tryz.prog 58 #[.map (some b), .slice a rv.length cap, .string M] w fun e w' => e = .returned (.agg #[.int .i64 (colV M cs rv vlZ).k, .int .i64 (colV M cs rv vlZ).n, .string (colV M cs rv vlZ).s]) ∧ w.grownBy w' none := by
  have HA := Lib.hid (heap_alloc_new w (.cells #[.int .i64 0, .int .i64 0, .string ⟨#[]⟩] 37))
  have GA := Lib.hid (World.grownBy_alloc w (.cells #[.int .i64 0, .int .i64 0, .string ⟨#[]⟩] 37) none)
  obtain ⟨⟨a0, a1, a2⟩, a3, a4, a5⟩ := three_of HA.out
  obtain ⟨nn, D, hown, hsp⟩ := hM.kept GA.out
  obtain ⟨hhas, hat0⟩ := hsp M
  have hkey := svKey_of hs
  have HN := Lib.hid (fun (k : Nat) W (hW : w.grownBy W none) => nth_any a cap (rv.map vlV) k W (((h.keep hW (by simp)).mono1 hW.size).row (Nat.le_refl _) hf))
  rw [List.length_map] at HN
  by_cases hc : colN M cs < cs.length
  · rw [decide_eq_true hc] at hhas
    have hv : colV M cs rv vlZ = (rv.map vlV).getD (colN M cs) default := by
      rw [colV_hit hc, List.getD_eq_getElem?_getD, List.getD_eq_getElem?_getD, List.getElem?_map]
      rw [List.getElem?_eq_getElem (by omega)]; rfl
    rw [hv]
    have hat1 := hat0 hc (.lit (.int .i64 0))
    clear hv hat0 hc hf h hM hsp
    generalize hN : colN M cs = N at *
    generalize rv.length = n at *
    have HH := Lib.hid hhas
    have HO := Lib.hid hown
    have HK := Lib.hid hkey
    have HT := Lib.hid hat1
    obtain ⟨⟨xk, xn, xs⟩, hx⟩ : ∃ x, x = (rv.map vlV).getD N default := ⟨_, rfl⟩
    have HN1 := Lib.hid (HN.out N)
    rw [← hx] at HN1 ⊢
    dsimp only at HN1 ⊢
    clear hhas hown hkey hat1 hN hlen hs hx HN
    go_enter Tryz.func58, Tryz.ntmps58
    go_wp2_with (first
      | (at_lookup; refine wpList_lookup_own_ok_int _ rfl _ _ 108 rfl 9 3 .i64 sv_key Tryz.underlying108 Tryz.underlying3 (sv_zero _) b nn D rfl HO.out _ _ rfl HK.out ?_; intro c hat hwc; rw [HH.out]; obtain rfl : c = (N : Int) := by (rw [HT.out] at hat; injection hat with hat; injection hat with _ hat; exact hat.symm))
      | fail)
    refine (HN1.out _ GA.out).mono ?_
    rintro e w2 ⟨rfl, hg⟩
    have HA2 := Lib.hid (blkD hg HA.out)
    have G2 := Lib.hid (GA.out.trans hg)
    obtain ⟨⟨d0, d1, d2⟩, d3, d4, d5⟩ := three_of HA2.out
    clear a0 a1 a2 a3 a4 a5 hg
    go_wp2_with fail
    exact bodyPost_ret (results_cell_row rfl _ _ w.heap.size 37 #[.int .i64 xk, .int .i64 xn, .string xs] (0, 0) _ rfl (set3 HA2.out) Tryz.underlying37 rfl (by kernel_rfl)) rfl ⟨rfl, grown_set3 G2.out (Nat.le_refl _) _ _ _⟩
  · rw [decide_eq_false hc] at hhas
    have hv : colV M cs rv vlZ = ⟨0, 0, ⟨#[]⟩⟩ := colV_no hc
    rw [hv]
    dsimp only
    clear hv hat0 hc hf h hM hsp
    generalize rv.length = n at *
    have HH := Lib.hid hhas
    have HO := Lib.hid hown
    have HK := Lib.hid hkey
    clear hhas hown hkey hlen hs
    go_enter Tryz.func58, Tryz.ntmps58
    go_wp2_with (first
      | (at_lookup; refine wpList_lookup_own_ok_int _ rfl _ _ 108 rfl 9 3 .i64 sv_key Tryz.underlying108 Tryz.underlying3 (sv_zero _) b nn D rfl HO.out _ _ rfl HK.out ?_; intro c hat hwc; rw [HH.out])
      | fail)
    exact bodyPost_ret (results_cell_row rfl _ _ w.heap.size 37 #[.int .i64 0, .int .i64 0, .string ⟨#[]⟩] (0, 0) _ rfl (heap_alloc_new w _) Tryz.underlying37 rfl (by kernel_rfl)) rfl ⟨rfl, World.grownBy_alloc w _ none⟩
end Go.Proofs.YtpklajadfbigcaaGreatDoor
namespace Go.Proofs.YtpklajadfbigcaaGreatDoor
open Go.RowKit
set_option linter.unusedVariables false
set_option linter.unusedSimpArgs false
theorem row_infoT : (Tryz.prog.info? 37).map (fun i => (i.zero, i.size, i.bytes)) = some (some (.agg #[.int .i64 0, .int .i64 0, .string ⟨#[]⟩]), 3, 32) := by kernel_rfl
theorem row_el : ElT 54 37 (.agg #[.int .i64 0, .int .i64 0, .string ⟨#[]⟩]) 3 32 := ⟨Tryz.underlying54, info_partsT row_infoT, by decide, by decide, by decide⟩
theorem vlcc_ones (v : Vl) : ∀ u ∈ Vl.cc v, u.oneCell' = true := by
  intro u hu
  unfold Vl.cc at hu
  simp only [List.mem_cons, List.not_mem_nil, or_false] at hu
  rcases hu with rfl | rfl | rfl <;> rfl
theorem flatM_take {α : Type} [Inhabited α] (c : α → List Value) (l : List α) (k : Nat) (h : k < l.length) : (l.take (k + 1)).flatMap c = (l.take k).flatMap c ++ c (l.getD k default) := by
  rw [List.take_add_one, List.flatMap_append, List.getD_eq_getElem?_getD, List.getElem?_eq_getElem h]
  simp
theorem news3 (W : World) (v : Vl) : ∀ ad, (some ⟨W.heap.size, 0, none⟩ : Option Addr) = some ad → ∀ j u, (Vl.cc v)[j]? = some u → (W.alloc (.cells #[.int .i64 v.k, .int .i64 v.n, .string v.s] 37)).cell? (Addr.add ad j) = some u := by
  intro ad e
  cases e
  have := World.news_of_block (heap_alloc_new W (.cells #[.int .i64 v.k, .int .i64 v.n, .string v.s] 37))
  simpa [Vl.cc] using this
set_option maxRecDepth 100000 in
set_option maxHeartbeats 6400000 in
theorem take_any (TN : ByteArray) (ta : Option Addr) (tcap : Nat) (cs : List Cl) (TK : Int) (ia : Option Addr) (icap : Nat) (its : List Itm) (ra : Option Addr) (rcap : Nat) (rv : List Vv) (w : World) (hC : ColsAt w.heap.size w ta cs) (hs : ∀ c ∈ cs, c.n.size ≤ maxLen) (hl : cs.length ≤ 100000)
    (hI : CellsS (fun _ => True) w ia (its.flatMap Itm.c)) (hic : its.length ≤ icap) (hp : ∀ x ∈ its, x.agg = 0 ∧ x.col.size ≤ maxLen) (hn : its.length ≤ 1000) (hV : VvAt w.heap.size w ra rv) (hf : ∀ v ∈ rv, (vlV v).fine) (hlen : rv.length = cs.length) :
    Calls Tryz.prog 34 #[.agg #[.string TN, .slice ta cs.length tcap, .int .i64 TK], .slice ia its.length icap, .slice ra rv.length rcap] w fun e w' => (∃ a c, e = .returned (.slice a its.length c) ∧ Win 3 w' a c its.length (its.flatMap fun x => Vl.cc (colV x.col cs rv vlZ)) ∧ (∀ k, bk a k → w.heap.size ≤ k)) ∧ w.grownBy w' none := by
  have HN := Lib.hid (fun W (hW : w.grownBy W none) => numbered_any TN ta tcap cs TK W ((hC.keep hW (by simp)).mono hW.size) hs hl)
  have HCV := Lib.hid (fun (b : Nat) (M : ByteArray) W (hW : w.grownBy W none) (hM : MapC W b cs) (hz : M.size ≤ maxLen) => colval_any b cs ra rcap rv M W hM ((hV.keep hW (by simp)).mono1 hW.size) hf hlen hz)
  have HI : Hid (∀ W, w.grownBy W none → ∀ k, k < its.length → ∃ b off, ia = some ⟨b, off, none⟩ ∧ W.cell? ⟨b, off + k * 3, none⟩ = some (.int .i64 0) ∧ W.cell? ⟨b, off + k * 3 + 1, none⟩ = some (.string (its.getD k default).col) ∧ W.cell? ⟨b, off + k * 3 + 2, none⟩ = some (.int .i64 (its.getD k default).pos) ∧ (its.getD k default).col.size ≤ maxLen) := Lib.hid (fun W hW k hk => by
    obtain ⟨b, off, e, _, _, hc⟩ := (hI.keep (.of hW)).elem Itm.c_len (by decide) hk
    have hx := hp (its.getD k default) (by rw [List.getD_eq_getElem?_getD, List.getElem?_eq_getElem hk]; exact List.getElem_mem _)
    generalize its.getD k default = x at *
    refine ⟨b, off, e, ?_, ?_, ?_, hx.2⟩
    · have := hc 0 _ rfl; rw [hx.1] at this; simpa using this
    · have := hc 1 _ rfl; simpa [Nat.add_assoc] using this
    · have := hc 2 _ rfl; simpa [Nat.add_assoc] using this)
  have HF := Lib.hid (fun k (hk : k < its.length) => flatM_take (fun x : Itm => Vl.cc (colV x.col cs rv vlZ)) its k hk)
  have HT : Hid ((its.take its.length).flatMap (fun x : Itm => Vl.cc (colV x.col cs rv vlZ)) = its.flatMap fun x => Vl.cc (colV x.col cs rv vlZ)) := Lib.hid (by rw [List.take_length])
  obtain ⟨fl, hfl⟩ : ∃ fl : Nat → List Value, fl = fun k => (its.take k).flatMap (fun x : Itm => Vl.cc (colV x.col cs rv vlZ)) := ⟨_, rfl⟩
  have HF0 : Hid (fl 0 = []) := Lib.hid (by rw [hfl]; rfl)
  replace HF : Hid (∀ k, k < its.length → fl (k + 1) = fl k ++ Vl.cc (colV (its.getD k default).col cs rv vlZ)) := Lib.hid (fun k hk => by rw [hfl]; exact HF.out k hk)
  replace HT : Hid (fl its.length = its.flatMap fun x => Vl.cc (colV x.col cs rv vlZ)) := Lib.hid (by rw [hfl]; exact HT.out)
  rw [← HT.out]
  clear hfl HT hC hs hl hI hp hV hf hlen
  generalize its.length = m at *
  generalize rv.length = rn at *
  obtain ⟨cn, hcn⟩ : ∃ cn, cn = cs.length := ⟨_, rfl⟩
  rw [← hcn] at HN ⊢
  clear hcn
  have T1 := Lib.hid (heap_alloc_new w (.cells #[.string TN, .slice ta cn tcap, .int .i64 TK] 24))
  have G1 := Lib.hid (World.grownBy_alloc w (.cells #[.string TN, .slice ta cn tcap, .int .i64 TK] 24) none)
  go_enter Tryz.func34, Tryz.ntmps34
  go_upto_region 1 with fail
  generalize w.alloc (.cells #[.string TN, .slice ta cn tcap, .int .i64 TK] 24) = w1 at *
  obtain ⟨⟨t0, t1, t2⟩, t3, t4, t5⟩ := three_of T1.out
  go_wp2_with fail
  refine (HN.out _ G1.out).mono ?_
  rintro e w2 ⟨⟨b, rfl, hM⟩, hg⟩
  have M2 := Lib.hid hM
  have G2 := Lib.hid (G1.out.trans hg)
  clear hM hg t0 t1 t2 t3 t4 t5 T1
  go_wp2_with fail
  go_loopw [8, 15] (fun s8 s15 wr => ∃ (k c : Nat) (a' : Option Addr), s8 = .slice a' k c ∧ s15 = .int .i64 k ∧ k ≤ m ∧ Hid (Win 3 wr a' c k (fl k)) ∧ Hid (∀ j, bk a' j → w2.heap.size ≤ j) ∧ Hid (w2.grownBy wr none)) (fun _ s15 _ => m - (intOf s15).toNat)
  case atStart => exact ⟨0, 0, none, rfl, rfl, Nat.zero_le _, Lib.hid (by rw [HF0.out]; exact Win.nil 3 _), Lib.hid (fun j hj => by simp [bk] at hj), Lib.hid (grown_reflT _ _)⟩
  case round =>
    obtain ⟨k, c, a', rfl, rfl, hk, KW, KB, KG⟩ := hrel
    have GR := Lib.hid (G2.out.trans KG.out)
    by_cases hlt : k < m
    · obtain ⟨ib, io, rfl, c0, c1, c2, hsz⟩ := HI.out wr GR.out k hlt
      have HFk := Lib.hid (HF.out k hlt)
      have HSz := Lib.hid hsz
      generalize (its.getD k default).col = M at *
      generalize (its.getD k default).pos = P at *
      have i0 : (0 : Int) ≤ k := by omega
      have i1 : (k : Int) < m := by omega
      have i2 : (k : Int) < icap := by omega
      have G3 := Lib.hid (World.grownBy_alloc wr (.cells #[.int .i64 0, .string M, .int .i64 P] 27) none)
      have X3 := Lib.hid (heap_alloc_new wr (.cells #[.int .i64 0, .string M, .int .i64 P] 27))
      clear hsz
      go_upto_region 6 with fail
      generalize wr.alloc (.cells #[.int .i64 0, .string M, .int .i64 P] 27) = w3 at *
      obtain ⟨⟨d0, d1, d2⟩, d3, d4, d5⟩ := three_of X3.out
      clear c0 c1 c2
      have HV1 := Lib.hid (HCV.out b M w3 (GR.out.trans G3.out) (M2.out.kept (KG.out.trans G3.out)) HSz.out)
      generalize colV M cs rv vlZ = v at *
      obtain ⟨vk, vn, vs⟩ := v
      dsimp only at HV1
      go_wp2_with fail
      refine HV1.out.mono ?_
      rintro e w4 ⟨rfl, hg⟩
      have G4 := Lib.hid (KG.out.trans (G3.out.trans hg))
      have W4 := Lib.hid (KW.out.keepG (G3.out.trans hg))
      have W5 := Lib.hid (W4.out.keepG (World.grownBy_alloc w4 (.cells #[.int .i64 vk, .int .i64 vn, .string vs] 37) none))
      have N5 := Lib.hid (news3 w4 ⟨vk, vn, vs⟩)
      clear hg d0 d1 d2 d3 d4 d5 KW W4
      go_wp2_with (first
        | (refine wpList_append_winA (by rfl) _ _ row_el rfl W5.out (by rfl) _ 1 1 (by rfl) _ (fun e => by cases e) (by rfl) (by omega) N5.out (vlcc_ones _) ?_; intro a6 c6 w6 hW6 hO6 hB6 _)
        | fail)
      have G6 := Lib.hid (grown_onlyN (G4.out.trans (World.grownBy_alloc w4 _ none)) hO6 KB.out)
      have W6 : Hid (Win 3 w6 a6 c6 (k + 1) (fl (k + 1))) := Lib.hid (by rw [HFk.out]; exact hW6)
      have B6 : Hid (∀ j, bk a6 j → w2.heap.size ≤ j) := Lib.hid (fun j hj => (hB6 j hj).elim (KB.out j) (fun h => Nat.le_trans (G4.out.trans (World.grownBy_alloc w4 _ none)).size h))
      exact ⟨⟨k + 1, c6, a6, rfl, rfl, by omega, W6, B6, G6⟩, by simp [intOf]; omega⟩
    · obtain rfl : k = m := by omega
      clear HF HF0 HI HCV HN
      go_wp2_with fail
      go_ret
      exact ⟨⟨a', c, rfl, KW.out, fun j hj => Nat.le_trans G2.out.size (KB.out j hj)⟩, GR.out⟩
end Go.Proofs.YtpklajadfbigcaaGreatDoor
