/- The reader's parts. The reader's all and any over one. SamePred: are two predicates the same, but for places? -/
import Derived.Test.YtppigamibgefaaaGreatDoorZp26
import Derived.Test.YtppigamibgefaaaGreatDoorZp25
import Derived.Deep.LoopGhost
namespace Go.Proofs.YtppigamibgefaaaGreatDoor
open Go.RowKit

theorem pred_infoT : (Tryz.prog.info? 31).map (fun i => (i.zero, i.size, i.bytes)) = some (some (.agg z10), 10, 136) := by kernel_rfl
theorem pred_el : ElT 29 31 (.agg z10) 10 136 := ⟨Tryz.underlying29, info_partsT pred_infoT, by decide, by decide, by decide⟩
/-- append of one element to a window, as an operation that doesn't draw. -/
theorem wpList_append_win {ops : Array Oper} {rest : List Oper} {o : Oper} {act : Act} {Q : Exit → Act → World → Prop} {w : World} (hgd : o.guard = none) (s x : Operand) {sl e : TypeId} {z : Value} {sz by' : Nat} (E : ElT sl e z sz by')
    (ho : o.op = .call { callee := .builtin .append, args := #[s, x], argTypes := #[sl, sl] })
    {a : Option Addr} {cap n : Nat} {xs : List Value} (h : Win sz w a cap n xs) (hn : n ≤ 1000000)
    (hs : act.eval s = .slice a n cap) (ad : Addr) (c : Nat) (hx : act.eval x = .slice (some ad) 1 c) (news : List Value) (hnl : news.length = sz) (hnews : ∀ j u, news[j]? = some u → w.cell? (ad.add j) = some u) (h1 : ∀ u ∈ news, u.oneCell' = true)
    (hk : ∀ a' cap' w', Win sz w' a' cap' (n + 1) (xs ++ news) → Only (bk a) w w' → (∀ k, bk a' k → bk a k ∨ w.heap.size ≤ k) → wpList Tryz.prog ops Q rest (act.put o.dst (.slice a' (n + 1) cap')) w') :
    wpList Tryz.prog ops Q (o :: rest) act w := by
  obtain ⟨a', cap', w', hr, h2, h3, h4⟩ := run_append_win E h hn ad c news hnl hnews h1 o.type
  have hK := hk a' cap' w' h2 h3 h4
  refine wpList_plain hgd fun K hK' => ?_
  unfold Oper.wp
  simp only [execOp, ho, resolve, invoke, builtin, Sem.run_bind, Sem.run_pure, Result.andThen_ok, List.map_toArray, List.map_cons, List.map_nil, hs, hx, hr]
  exact hK' _ _ hK
theorem fold_ten {cs : Array Value} (h : cs.size = 10) : Array.foldl (fun (cs : Array Value) (x : Value × Nat) => cs.setIfInBounds x.snd x.fst) #[.int .i64 0, .string ⟨#[]⟩, .int .i64 0, .int .i64 0, .int .i64 0, .string ⟨#[]⟩, .string ⟨#[]⟩, .slice Option.none 0 0, .slice Option.none 0 0, .int .i64 0] cs.zipIdx 0 10 = cs := by
  obtain ⟨l⟩ := cs
  match l, h with
  | [a0, a1, a2, a3, a4, a5, a6, a7, a8, a9], _ => simp
def lenS : Value → Nat
  | .slice _ n _ => n
  | _ => 0
theorem join_one (kind pos : Nat) (x : Prd) : joinP kind pos [x] = x := rfl
theorem join_more (kind pos : Nat) (l : List Prd) (h : l.length ≠ 1) : joinP kind pos l = .mk kind ⟨#[]⟩ 0 ⟨0, 0, ⟨#[]⟩⟩ ⟨#[]⟩ [] l pos := by
  unfold joinP
  split
  · exact absurd rfl h
  · rfl
def jnP (kind : Nat) (a : Ptr) (cap : Nat) (l : List Pm) (pos : Nat) : Pm := .mk kind ⟨#[]⟩ 0 ⟨0, 0, ⟨#[]⟩⟩ ⟨#[]⟩ Option.none 0 [] a cap l pos
theorem jn10 {w : World} {g kd n cap pos : Nat} {a : Ptr} {l : List Pm} {T : TypeId} (hl : l.length = n) (h : w.heap[g]? = some (.cells #[.int .i64 (kd : Int), .string ⟨#[]⟩, .int .i64 0, .int .i64 0, .int .i64 0, .string ⟨#[]⟩, .string ⟨#[]⟩, .slice Option.none 0 0, .slice a n cap, .int .i64 (pos : Int)] T (0, 0))) : w.heap[g]? = some (.cells (jnP kd a cap l pos).c.toArray T (0, 0)) := by
  subst hl
  simpa [jnP, Pm.c] using h
set_option maxRecDepth 100000 in
set_option maxHeartbeats 3200000 in
theorem pparts_any (R b deep kind N : Nat) (word : ByteArray) (hw : word ≠ ⟨#[]⟩) (p : Value) (pf : RS → RS × Prd) (hn : ∀ s : RS, s.ok → s.next (pf s).1) (s : RS) (w : World) (h : RdA R b deep s w)
    (hE : ∀ args W, Sem.run Tryz.prog (callFunc N args) W = .ok (.enter N args) W)
    (hN : ∀ W st, RdA R b deep st W → Calls Tryz.prog N #[p] W (PrGo R b deep (pf st) W)) :
    Calls Tryz.prog 122 #[.pointer (some ⟨R, 0, none⟩), .int .i64 kind, .string word, .func (.func N) #[p] #[]] w (PrGo R b deep (partsL kind word pf s) w) := by
  have HS := Lib.hid h
  have HN := Lib.hid hN
  have HC := Lib.hid (fun W (hW : w.grownBy W none) => comes_any R b deep s W (h.keep hW))
  have HY := Lib.hid (fun st (hc : st.comes word = true) W (hW : RdA R b deep st W) => took_yes R b deep st word W hW hw hc)
  have HO := Lib.hid (fun st (hc : st.comes word = false) W (hW : RdA R b deep st W) => took_no R b deep st word W hW hw hc)
  have HP := Lib.hid (fun st (hs : st.ok) (hc : st.comes word = true) => And.intro (hs.pass (RS.more_of hw hc)) (And.intro (hn _ (hs.pass (RS.more_of hw hc)).1) (fun acc => partsF_step word hw pf hn st acc hs hc)))
  have hR := h.lt'
  obtain ⟨r, hr⟩ : ∃ r, r = partsL kind word pf s := ⟨_, rfl⟩
  rw [← hr]
  have Hr := Lib.hid hr
  clear h hN hr
  go_enter Tryz.func122, Tryz.ntmps122
  have GA := Lib.hid (World.grownBy_alloc w (.cells z10 31) none)
  have GA1 := Lib.hid (heap_alloc_new w (.cells z10 31))
  go_wp2_with fail
  refine (HC.out _ GA.out).mono ?_
  rintro e w2 ⟨rfl, hg⟩
  have G2 := Lib.hid (GA.out.trans hg)
  have R2 := Lib.hid (HS.out.keep G2.out)
  have A2 := Lib.hid (blk_grown hg GA1.out)
  have t1 := field_tk2 (.int .i64 s.hd.kind) (.string s.hd.text) (.int .i64 s.hd.pos) w2
  clear hg
  go_wp2_with fail
  refine (HN.out _ s R2.out).mono ?_
  rintro e w3 ⟨x, rfl, hx, hxS, hgo⟩
  have P0 := Lib.hid (Prt.begin hR G2.out A2.out hgo hxS)
  have HX := Lib.hid hx
  clear hgo hxS hx
  have PH0 : Hid (∃ st acc, Prt R b deep w (w3.alloc (.cells x.c.toArray 31)) st acc (some ⟨w3.heap.size, 0, Option.none⟩) 1 ∧ acc.length = 1 ∧ partsF word pf st.rest.length st (Pm.es acc) = partsF word pf (pf s).1.rest.length (pf s).1 [(pf s).2]) := Lib.hid ⟨_, [x], P0.out, rfl, by rw [← HX.out]; rfl⟩
  clear P0 HX t1
  have h1 := x.c_size
  have h2 := x.c_all
  simp only [Pm.v]
  generalize x.c.toArray = cs at *
  go_wp2_with fail
  rw [fold_ten h1]
  go_loopw [10] (fun s10 wr => ∃ (n cap : Nat) (a : Ptr), s10 = .slice a n cap ∧ Hid (∃ st acc, Prt R b deep w wr st acc a cap ∧ acc.length = n ∧ partsF word pf st.rest.length st (Pm.es acc) = partsF word pf (pf s).1.rest.length (pf s).1 [(pf s).2])) (fun s10 _ => 300 - lenS s10)
  case atStart => exact ⟨1, 1, _, rfl, PH0⟩
  case round =>
    obtain ⟨n, cap, a, rfl, K⟩ := hrel
    obtain ⟨st, acc, P, hl, hrr⟩ := K.out
    have hfew : n ≤ 270 := by have := P.few; omega
    have PP := Lib.hid P
    have HL := Lib.hid hl
    clear h1 h2 PH0 K
    cases hc : st.comes word with
    | false =>
      have HT1 := Lib.hid (HO.out st hc wr P.go.1)
      rw [partsF_end word pf st _ hc] at hrr
      have hr1 : r = (st, joinP kind s.hd.pos (Pm.es acc)) := by rw [Hr.out]; unfold partsL; rw [← hrr]
      have Hr1 := Lib.hid hr1
      clear hr1 hrr hl P hc
      go_wp2_with fail
      refine HT1.out.mono ?_
      rintro e w4 ⟨rfl, hg4⟩
      have P4 := Lib.hid (PP.out.then hR hg4 (Nat.le_refl _))
      clear hg4 PP
      by_cases hn1 : n = 1
      · obtain ⟨y, hy⟩ := List.length_eq_one_iff.1 (HL.out.trans hn1)
        subst hy
        subst hn1
        obtain ⟨g, rfl, hlt, hb⟩ := P4.out.one y rfl
        have B4 := Lib.hid hb
        have A4 := Lib.hid P4.out.res
        clear hb
        go_wp2_with (first
          | (refine wpList_load_row rfl 31 (.tmp 29) rfl g rfl 31 y.c.toArray (0, 0) _ B4.out Tryz.underlying31 rfl (by rw [Pm.c_size]; exact pred_size) ?_)
          | (refine wpList_store_row rfl 31 (.tmp 8) (.tmp 30) rfl w.heap.size y.c.toArray rfl rfl 31 z10 A4.out (by rw [Pm.c_size]; exact pred_size) (by rw [Pm.c_size]; rfl) (Pm.c_all _) ?_))
        obtain ⟨hp, hb⟩ := PrGo.ret (r := r) HS.out y (by rw [Hr1.out]; rfl) (P4.out.kids.1.mono (fun j _ hj => ⟨Nat.le_of_lt hj.1, fun e => by have := hj.1; omega⟩)) (by rw [Hr1.out]; exact P4.out.go) (Nat.le_refl _) A4.out
        exact bodyPost_ret (results_pm rfl _ _ w.heap.size _ rfl hb) rfl hp
      · have n0 : ((n : Int) == 1) = false := by rw [beq_eq_false_iff_ne]; omega
        have A4 := Lib.hid P4.out.res
        obtain ⟨⟨p0, p1, p2, p3, p4⟩, p5, p6, p7, p8, p9⟩ := ten_of (show w4.heap[w.heap.size]? = some (.cells #[.int .i64 0, .string ⟨#[]⟩, .int .i64 0, .int .i64 0, .int .i64 0, .string ⟨#[]⟩, .string ⟨#[]⟩, .slice Option.none 0 0, .slice Option.none 0 0, .int .i64 0] 31 (0, 0)) from A4.out)
        obtain ⟨⟨q0, q1, q2, q3, q4⟩, q5, q6, q7, q8, q9⟩ := ten_f A4.out
        go_wp2_with fail
        have hs := jn10 (kd := kind) (pos := s.hd.pos) HL.out (set10 A4.out (v0 := .int .i64 (kind : Int)) (v1 := .string ⟨#[]⟩) (v2 := .int .i64 0) (v3 := .int .i64 0) (v4 := .int .i64 0) (v5 := .string ⟨#[]⟩) (v6 := .string ⟨#[]⟩) (v7 := .slice Option.none 0 0) (v8 := .slice a n cap) (v9 := .int .i64 (s.hd.pos : Int)))
        have hg := grown10 w4 w.heap.size (.int .i64 (kind : Int)) (.string ⟨#[]⟩) (.int .i64 0) (.int .i64 0) (.int .i64 0) (.string ⟨#[]⟩) (.string ⟨#[]⟩) (.slice Option.none 0 0) (.slice a n cap) (.int .i64 (s.hd.pos : Int))
        have hp := PrGo.retG (r := r) HS.out (jnP kind a cap acc s.hd.pos) (by rw [Hr1.out]; simp only [jnP, Pm.e]; rw [join_more]; rw [Pm.es_map, List.length_map, HL.out]; exact hn1) ?_ (by rw [Hr1.out]; exact P4.out.go) (Nat.le_refl _) hg
        · exact bodyPost_ret (results_pm rfl _ _ w.heap.size _ rfl hs) rfl hp
        · exact ⟨RwS.nil _ _ _, Nat.le_refl _, (P4.out.cellsS.keep ⟨hg.size, fun k hk hlt => hg.block k hlt (by simp; omega)⟩).mono (fun _ _ h => Nat.le_of_lt h), P4.out.win.le, (P4.out.kids.keep ⟨hg.size, fun k hk hlt => hg.block k hlt (by simp; have := hk.1; omega)⟩).mono' (fun _ _ h => Nat.le_of_lt h.1)⟩
    | true =>
      have HT1 := Lib.hid (HY.out st hc wr P.go.1)
      have hst := HP.out st P.go.1.ok hc
      have hrr2 := (hst.2.2 (Pm.es acc)).symm.trans hrr
      have Hrr := Lib.hid (And.intro hst.1.2 (And.intro hst.2.1.2 (And.intro hrr2 P.few)))
      clear hst hrr2 hrr hl P hc
      go_wp2_with fail
      refine HT1.out.mono ?_
      rintro e w4 ⟨rfl, hg4⟩
      have P4 := Lib.hid (PP.out.then hR hg4 (by have := Hrr.out.1; omega))
      clear hg4 PP
      go_wp2_with fail
      refine (HN.out w4 st.pass P4.out.go.1).mono ?_
      rintro e w5 ⟨x, rfl, hx, hxS, hg5⟩
      have G5 := Lib.hid (And.intro hg5 (And.intro hx hxS))
      have P5 := Lib.hid (P4.out.then hR hg5 Hrr.out.2.1)
      have h1 := x.c_size
      have h2 := x.c_all
      clear hg5 hx hxS
      simp only [Pm.v]
      generalize hcs : x.c.toArray = cs2 at *
      have Hcs := Lib.hid hcs
      clear hcs
      go_wp2_with (at_builtin; rw [fold_ten h1]; refine wpList_append_win (by rfl) (.tmp 20) (.tmp 23) pred_el (by rfl) (P5.out.win.keepG (World.grownBy_alloc w5 (.cells cs2 31) none)) (by rw [HL.out]; omega) (by rw [HL.out]; rfl) ⟨w5.heap.size, 0, none⟩ 1 (by rfl) x.c (Pm.c_len x) (by rw [← Hcs.out]; exact World.news_of_block (heap_alloc_new w5 _)) x.c_one ?_)
      intro a' cap' w6 hw6 ho6 hb6
      have e := Hcs.out
      subst e
      have P6 := Lib.hid (P4.out.more hR HS.out G5.out.1 G5.out.2.2 Hrr.out.2.1 (by have := Hrr.out; omega) hw6 ho6 (by simpa using hb6))
      clear hw6 ho6 hb6
      go_wp2_with fail
      go_roundw
      case rel => exact ⟨n + 1, cap', a', by rw [HL.out], Lib.hid ⟨_, acc ++ [x], P6.out, by simp [HL.out], by
        have e : Pm.es (acc ++ [x]) = Pm.es acc ++ [(pf st.pass).2] := by simp [Pm.es_map, G5.out.2.1]
        rw [e]; exact Hrr.out.2.2.1⟩⟩
      case measure => have := HL.out; simp [lenS]; omega
end Go.Proofs.YtppigamibgefaaaGreatDoor
namespace Go.Proofs.YtppigamibgefaaaGreatDoor
open Go.RowKit

set_option maxRecDepth 100000 in
set_option maxHeartbeats 1600000 in
theorem pall_any (R b deep d : Nat) (H1 : ∀ s w, RdA R b deep s w → Calls Tryz.prog 145 #[.pointer (some ⟨R, 0, none⟩)] w (PrGo R b deep (oneF d s) w)) (s : RS) (w : World) (h : RdA R b deep s w) :
    Calls Tryz.prog 123 #[.pointer (some ⟨R, 0, none⟩)] w (PrGo R b deep (allF d s) w) := by
  have HS := Lib.hid h
  have HP := Lib.hid (fun W (hW : w.grownBy W none) => pparts_any R b deep 8 145 bAnd (by decide) (.pointer (some ⟨R, 0, none⟩)) (oneF d) (oneF_next d) s W (h.keep hW) (fun args W => Tryz.call145 args W) (fun W st h' => H1 st W h'))
  simp only [show ((8 : Nat) : Int) = 8 from rfl] at HP
  have hR := h.lt'
  unfold allF
  generalize partsL 8 bAnd (oneF d) s = r at *
  clear h H1
  go_enter Tryz.func123, Tryz.ntmps123
  have GA := Lib.hid (World.grownBy_alloc w (.cells z10 31) none)
  have GA1 := Lib.hid (heap_alloc_new w (.cells z10 31))
  go_wp2_with fail
  refine (HP.out _ GA.out).mono ?_
  rintro e w2 ⟨x, rfl, hx, hxS, hgo⟩
  have A2 := Lib.hid (hgo.blk GA1.out (by omega))
  have R2 := Lib.hid (show RdGo R b deep r.1 w w2 from ⟨hgo.1, GA.out.trans' hgo.2⟩)
  have HX := Lib.hid (And.intro hx (hxS.mono (S' := fun j => w.heap.size ≤ j ∧ j ≠ w.heap.size) (fun j _ hj => by simp at hj; omega)))
  clear hgo hx hxS
  go_wp2_with (refine wpList_store_row rfl 31 (.tmp 2) (.tmp 6) rfl w.heap.size x.c.toArray rfl rfl 31 z10 A2.out (by rw [Pm.c_size]; exact pred_size) (by rw [Pm.c_size]; rfl) (Pm.c_all _) ?_)
  obtain ⟨hp, hb⟩ := PrGo.ret (r := r) HS.out x HX.out.1 HX.out.2 R2.out (Nat.le_refl _) A2.out
  exact bodyPost_ret (results_pm rfl _ _ w.heap.size _ rfl hb) rfl hp
set_option maxRecDepth 100000 in
set_option maxHeartbeats 1600000 in
theorem pany_any (R b deep d : Nat) (H1 : ∀ s w, RdA R b deep s w → Calls Tryz.prog 145 #[.pointer (some ⟨R, 0, none⟩)] w (PrGo R b deep (oneF d s) w)) (s : RS) (w : World) (h : RdA R b deep s w) :
    Calls Tryz.prog 88 #[.pointer (some ⟨R, 0, none⟩)] w (PrGo R b deep (anyF d s) w) := by
  have HS := Lib.hid h
  have HP := Lib.hid (fun W (hW : w.grownBy W none) => pparts_any R b deep 9 123 bOr (by decide) (.pointer (some ⟨R, 0, none⟩)) (allF d) (allF_next d) s W (h.keep hW) (fun args W => Tryz.call123 args W) (fun W st h' => pall_any R b deep d H1 st W h'))
  simp only [show ((9 : Nat) : Int) = 9 from rfl] at HP
  have hR := h.lt'
  unfold anyF
  generalize partsL 9 bOr (allF d) s = r at *
  clear h H1
  go_enter Tryz.func88, Tryz.ntmps88
  have GA := Lib.hid (World.grownBy_alloc w (.cells z10 31) none)
  have GA1 := Lib.hid (heap_alloc_new w (.cells z10 31))
  go_wp2_with fail
  refine (HP.out _ GA.out).mono ?_
  rintro e w2 ⟨x, rfl, hx, hxS, hgo⟩
  have A2 := Lib.hid (hgo.blk GA1.out (by omega))
  have R2 := Lib.hid (show RdGo R b deep r.1 w w2 from ⟨hgo.1, GA.out.trans' hgo.2⟩)
  have HX := Lib.hid (And.intro hx (hxS.mono (S' := fun j => w.heap.size ≤ j ∧ j ≠ w.heap.size) (fun j _ hj => by simp at hj; omega)))
  clear hgo hx hxS
  go_wp2_with (refine wpList_store_row rfl 31 (.tmp 2) (.tmp 6) rfl w.heap.size x.c.toArray rfl rfl 31 z10 A2.out (by rw [Pm.c_size]; exact pred_size) (by rw [Pm.c_size]; rfl) (Pm.c_all _) ?_)
  obtain ⟨hp, hb⟩ := PrGo.ret (r := r) HS.out x HX.out.1 HX.out.2 R2.out (Nat.le_refl _) A2.out
  exact bodyPost_ret (results_pm rfl _ _ w.heap.size _ rfl hb) rfl hp
theorem RdA.deepen {R b deep : Nat} {s : RS} {w : World} (h : RdA R b deep s w) (d' : Nat) : RdA R b d' s (w.setCell ⟨R, 1, none⟩ (.int .i64 (d' : Int))) := by
  have hg := grown_cellR w R 1 (.int .i64 (d' : Int))
  obtain ⟨⟨o, k, hb, h1, h2, h3⟩, ok, few, lt, ne, ⟨tp, p, far⟩, gR, sz⟩ := h
  exact ⟨⟨o, k, by simpa using heap_setCell_same _ _ 1 _ _ (.int .i64 (d' : Int)) hb, h1, h2, fun j u hj => hg.cell (h3 j u hj) (by simp; exact ne)⟩, ok, few, Nat.lt_of_lt_of_le lt hg.size, ne, ⟨tp, p, hg.cell far (by simp; exact gR)⟩, gR, sz⟩
theorem RdA.deepc {R b deep : Nat} {s : RS} {w : World} (h : RdA R b deep s w) : w.cell? ⟨R, 1, none⟩ = some (.int .i64 (deep : Int)) ∧ w.frozen? ⟨R, 1, none⟩ = false := by
  obtain ⟨o, k, hb, _⟩ := h.at_
  exact ⟨by rw [cell_of_row _ _ 1 _ _ _ hb]; rfl, frozen_of_row _ _ 1 _ _ hb⟩
end Go.Proofs.YtppigamibgefaaaGreatDoor
namespace Go.Proofs.YtppigamibgefaaaGreatDoor
open Go.RowKit

def StkC (p : Psl × Psl) : List Value := [p.1.v, p.2.v]
theorem stk_len (st : Lft) : (st.flatMap StkC).length = st.length * 2 := flat_len StkC 2 (fun _ => rfl) st
theorem pair_info : (Tryz.prog.info? 99).map (fun i => (i.zero, i.size, i.bytes)) = some (some (.agg #[.slice none 0 0, .slice none 0 0]), 2, 48) := by kernel_rfl
theorem pair_el : ElT 100 99 (.agg #[.slice none 0 0, .slice none 0 0]) 2 48 := ⟨Tryz.underlying100, info_partsT pair_info, by decide, by decide, by decide⟩
theorem Pm.c_8 : ∀ x : Pm, x.c[8]? = some x.ksl.v | .mk .. => rfl
theorem Psl.in.mono {S S' : Nat → Prop} {w : World} {x : Psl} (h : x.in S w) (hs : ∀ b, b < w.heap.size → S b → S' b) : x.in S' w := ⟨h.1.mono hs, h.2.1, h.2.2.mono hs⟩
theorem Win.fewer {sz : Nat} {w : World} {a : Option Addr} {cap n m : Nat} {xs ys : List Value} (h : Win sz w a cap n (xs ++ ys)) (hm : m ≤ n) (hx : xs.length = m * sz) : Win sz w a cap m xs :=
  ⟨hx, Nat.le_trans hm h.le, h.max, h.lt, h.mem.imp id fun ⟨g, off, e, hc, hs, hf⟩ => ⟨g, off, e, fun j u hj => hc j u (by
    rw [List.getElem?_append_left (List.getElem?_eq_some_iff.1 hj).1]; exact hj), hs, hf⟩⟩
/-- The list of what is left, in memory; what it leads to lies below N. -/
structure Stk (N : Nat) (w W : World) (st : Lft) (a : Ptr) (cap : Nat) : Prop where
  win : Win 2 W a cap st.length (st.flatMap StkC)
  low : ∀ k, bk a k → N ≤ k
  mem : ∀ p ∈ st, p.1.in (fun j => j < N) W ∧ p.2.in (fun j => j < N) W
  hN : N ≤ W.heap.size
  hw : w.heap.size ≤ N
  g : w.grownBy W none
theorem Stk.keep {N : Nat} {w W W' : World} {st : Lft} {a : Ptr} {cap : Nat} (h : Stk N w W st a cap) (hg : W.grownBy W' none) : Stk N w W' st a cap :=
  ⟨h.win.keepG hg, h.low, fun p hp => ⟨(h.mem p hp).1.keep (.of hg), (h.mem p hp).2.keep (.of hg)⟩, Nat.le_trans h.hN hg.size, h.hw, h.g.trans hg⟩
theorem Stk.pop {N : Nat} {w W : World} {st : Lft} {p : Psl × Psl} {a : Ptr} {cap : Nat} (h : Stk N w W (st ++ [p]) a cap) : Stk N w W st a cap := by
  refine ⟨?_, h.low, fun q hq => h.mem q (by simp [hq]), h.hN, h.hw, h.g⟩
  have := h.win
  rw [List.flatMap_append] at this
  exact this.fewer (by simp) (stk_len st)
theorem Stk.top {N : Nat} {w W : World} {st : Lft} {p : Psl × Psl} {a : Ptr} {cap : Nat} (h : Stk N w W (st ++ [p]) a cap) : ∃ g off, a = some ⟨g, off, Option.none⟩ ∧ W.cell? ⟨g, off + st.length * 2, Option.none⟩ = some p.1.v ∧ W.cell? ⟨g, off + st.length * 2 + 1, Option.none⟩ = some p.2.v := by
  rcases h.win.mem with h0 | ⟨g, off, e, hc, _, _⟩
  · have := h.win.le; simp at this; omega
  · have hl := stk_len st
    refine ⟨g, off, e, hc _ _ ?_, ?_⟩
    · rw [List.flatMap_append, List.getElem?_append_right (by omega), hl, Nat.sub_self]; rfl
    · rw [Nat.add_assoc]
      refine hc _ _ ?_
      rw [List.flatMap_append, List.getElem?_append_right (by omega), hl, show st.length * 2 + 1 - st.length * 2 = 1 by omega]; rfl
theorem Stk.push {N : Nat} {w W w4 : World} {st : Lft} {p : Psl × Psl} {a a' : Ptr} {cap cap' : Nat} {o : Obj} (h : Stk N w W st a cap) (hp : p.1.in (fun j => j < N) W ∧ p.2.in (fun j => j < N) W) (hw : Win 2 w4 a' cap' (st.length + 1) (st.flatMap StkC ++ StkC p)) (ho : Only (bk a) (W.alloc o).drew w4) (hb : ∀ k, bk a' k → bk a k ∨ (W.alloc o).drew.heap.size ≤ k) : Stk N w w4 (st ++ [p]) a' cap' := by
  have hg := grown_drewT (World.grownBy_alloc W o none)
  have h2 := hg.size
  have h3 := ho.size
  have hN := h.hN
  have hst : Stays (fun j => j < N) W w4 := ⟨by omega, fun b hb hlt => (ho.block b (by omega) (fun e => by have := h.low b e; omega)).trans (hg.block b hlt (by simp))⟩
  refine ⟨by simpa [List.flatMap_append] using hw, fun k hk => ?_, fun q hq => ?_, by omega, h.hw, ?_⟩
  · rcases hb k hk with e | e
    · exact h.low k e
    · omega
  · rcases List.mem_append.1 hq with hq | hq
    · exact ⟨(h.mem q hq).1.keep hst, (h.mem q hq).2.keep hst⟩
    · obtain rfl : q = p := by simpa using hq
      exact ⟨hp.1.keep hst, hp.2.keep hst⟩
  · have g := h.g
    exact ⟨ho.os.trans (hg.os.trans g.os), ho.tape.trans (hg.tape.trans g.tape), ho.output.trans (hg.output.trans g.output), by have := g.size; omega, fun b hb _ => (ho.block b (by have := g.size; omega) (fun e => by have := h.low b e; have := h.hw; omega)).trans ((hg.block b (by have := g.size; omega) (by simp)).trans (g.block b hb (by simp)))⟩
theorem Stk.stays {N : Nat} {w W w4 : World} {st : Lft} {a : Ptr} {cap : Nat} {o : Obj} (h : Stk N w W st a cap) (ho : Only (bk a) (W.alloc o).drew w4) : Stays (fun j => j < N) W w4 := by
  have hg := grown_drewT (World.grownBy_alloc W o none)
  have h2 := hg.size
  have h3 := ho.size
  exact ⟨by omega, fun b hb hlt => (ho.block b (by omega) (fun e => by have := h.low b e; omega)).trans (hg.block b hlt (by simp))⟩
theorem stays_trans {S : Nat → Prop} {w w1 w2 : World} (h : Stays S w w1) (h2 : Stays S w1 w2) : Stays S w w2 :=
  ⟨Nat.le_trans h.1 h2.1, fun b hb hlt => (h2.2 b hb (Nat.lt_of_lt_of_le hlt h.1)).trans (h.2 b hb hlt)⟩
theorem kidsP_take (l m : List Pm) (j : Nat) (hj : j < l.length) (h : l.length = m.length) : (kidsP l m).take (j + 1) = (kidsP l m).take j ++ [((l.getD j default).ksl, (m.getD j default).ksl)] := by
  have hk := kidsP_at l m j hj h
  rw [List.take_add_one, hk]; rfl
theorem Psl.in.elem {S : Nat → Prop} {w : World} {x : Psl} (h : x.in S w) {i : Nat} (hi : i < x.l.length) : (∃ b off, x.a = some ⟨b, off, Option.none⟩ ∧ w.cell? ⟨b, off + i * 10 + 8, Option.none⟩ = some (x.l.getD i default).ksl.v) ∧ (x.l.getD i default).ksl.in S w := by
  obtain ⟨b, off, e, _, _, hc⟩ := h.1.elem Pm.c_len (by decide) hi
  refine ⟨⟨b, off, e, hc 8 _ (Pm.c_8 _)⟩, Pm.ksl_in ((PmSs_iff x.l).1 h.2.2 _ ?_)⟩
  rw [List.getD, List.getElem?_eq_getElem hi]; exact List.getElem_mem hi
/-- The list at first. -/
theorem Stk.first {S : Nat → Prop} {w : World} {x y : Pm} (hx : PmS S w x) (hy : PmS S w y) : Stk (w.heap.size + 1 + 1 + 1 + 1) w
    (((((w.alloc (.cells x.c.toArray 31)).alloc (.cells y.c.toArray 31)).alloc (.cells x.c.toArray 31)).alloc (.cells y.c.toArray 31)).alloc (.cells #[.slice (some ⟨w.heap.size + 1 + 1, 0, Option.none⟩) 1 1, .slice (some ⟨w.heap.size + 1 + 1 + 1, 0, Option.none⟩) 1 1] 99))
    [(⟨some ⟨w.heap.size + 1 + 1, 0, Option.none⟩, 1, [x]⟩, ⟨some ⟨w.heap.size + 1 + 1 + 1, 0, Option.none⟩, 1, [y]⟩)] (some ⟨w.heap.size + 1 + 1 + 1 + 1, 0, Option.none⟩) 1 := by
  obtain ⟨w1, e1⟩ : ∃ w1, w1 = (w.alloc (.cells x.c.toArray 31)).alloc (.cells y.c.toArray 31) := ⟨_, rfl⟩
  have s1 : w1.heap.size = w.heap.size + 1 + 1 := by rw [e1]; simp
  have g1 : w.grownBy w1 none := by rw [e1]; exact (World.grownBy_alloc _ _ _).trans (World.grownBy_alloc _ _ _)
  rw [← e1]
  clear e1
  have b2 := heap_alloc_new w1 (.cells x.c.toArray 31)
  have s2 : (w1.alloc (.cells x.c.toArray 31)).heap.size = w.heap.size + 1 + 1 + 1 := by simp [s1]
  have b3 := heap_alloc_new (w1.alloc (.cells x.c.toArray 31)) (.cells y.c.toArray 31)
  have g2 := World.grownBy_alloc w1 (.cells x.c.toArray 31) none
  have g3 := World.grownBy_alloc (w1.alloc (.cells x.c.toArray 31)) (.cells y.c.toArray 31) none
  have b2' := blk_grown g3 b2
  rw [s2] at b3
  rw [s1] at b2'
  obtain ⟨w3, e3⟩ : ∃ w3, w3 = (w1.alloc (.cells x.c.toArray 31)).alloc (.cells y.c.toArray 31) := ⟨_, rfl⟩
  have s3 : w3.heap.size = w.heap.size + 1 + 1 + 1 + 1 := by rw [e3]; simp [s1]
  rw [← e3] at b2' b3 g3 ⊢
  have g13 : w.grownBy w3 none := (g1.trans g2).trans g3
  clear e3
  obtain ⟨o, ho⟩ : ∃ o : Obj, o = .cells #[.slice (some ⟨w.heap.size + 1 + 1, 0, Option.none⟩) 1 1, .slice (some ⟨w.heap.size + 1 + 1 + 1, 0, Option.none⟩) 1 1] 99 := ⟨_, rfl⟩
  have b4 := heap_alloc_new w3 o
  rw [s3] at b4
  have g4 := World.grownBy_alloc w3 o none
  rw [← ho]
  have hS : ∀ b, b < w.heap.size → S b → b < w.heap.size + 1 + 1 + 1 + 1 := fun b hb _ => by omega
  have one : ∀ (g : Nat) (z : Pm), g < w.heap.size + 1 + 1 + 1 + 1 → PmS S w z → (w3.alloc o).heap[g]? = some (.cells z.c.toArray 31 (0, 0)) → Psl.in (fun j => j < w.heap.size + 1 + 1 + 1 + 1) (w3.alloc o) ⟨some ⟨g, 0, Option.none⟩, 1, [z]⟩ := fun g z hg hz hb =>
    ⟨one_cells hb hg, Nat.le_refl _, (hz.mono hS).keep (.of (g13.trans g4)), trivial⟩
  refine ⟨⟨rfl, Nat.le_refl _, by decide, fun k hk => ?_, .inr ⟨_, 0, rfl, fun j u hj => ?_, fun j hj => ?_, fun i => ?_⟩⟩, fun k hk => ?_, fun p hp => ?_, ?_, by omega, g13.trans g4⟩
  · rw [bk_some] at hk; subst hk; exact (Array.getElem?_eq_some_iff.1 b4).1
  · rw [ho] at b4 ⊢
    rw [Nat.zero_add, cell_of_row _ _ j _ _ _ b4]
    simpa [StkC, Psl.v] using hj
  · rw [ho] at b4 ⊢
    rw [Nat.zero_add, cell_of_row _ _ j _ _ _ b4]
    have : j < 2 := by omega
    simp [this]
  · rw [ho] at b4 ⊢
    exact frozen_of_row _ _ i _ _ b4
  · rw [bk_some] at hk; omega
  · obtain rfl : p = _ := by simpa using hp
    exact ⟨one _ x (by omega) hx (blk_grown g4 b2'), one _ y (by omega) hy (blk_grown g4 b3)⟩
  · have := g4.size; omega
set_option maxRecDepth 100000 in
set_option maxHeartbeats 6400000 in
theorem samePred_any (S : Nat → Prop) (x y : Pm) (w : World) (hx : PmS S w x) (hy : PmS S w y) (hn : x.n ≤ 1000) :
    Calls Tryz.prog 16 #[x.v, y.v] w fun e w' => BoolIs (x.z false = y.z false) e ∧ w.grownBy w' none := by
  have H0 := Lib.hid (Stk.first hx hy)
  have HS : Hid (x.z false = y.z false ↔ Lft.same false [(⟨some ⟨w.heap.size + 1 + 1, 0, Option.none⟩, 1, [x]⟩, ⟨some ⟨w.heap.size + 1 + 1 + 1, 0, Option.none⟩, 1, [y]⟩)]) := Lib.hid (by simp [Lft.same])
  have HN : Hid (Lft.w [(⟨some ⟨w.heap.size + 1 + 1, 0, Option.none⟩, 1, [x]⟩, ⟨some ⟨w.heap.size + 1 + 1 + 1, 0, Option.none⟩, 1, [y]⟩)] ≤ 3000) := Lib.hid (by simp [Lft.w, Pm.ns]; omega)
  have HE := Lib.hid eqfPm_any
  have hX1 := x.c_size
  have hX2 := x.c_all
  have hY1 := y.c_size
  have hY2 := y.c_all
  unfold Pm.v
  generalize x.z false = zx at *
  generalize y.z false = zy at *
  obtain ⟨EZ, hEZ⟩ : ∃ P : Prop, P = (zx = zy) := ⟨_, rfl⟩
  rw [← hEZ] at HS ⊢
  clear hEZ hx hy hn
  generalize x.c.toArray = cx at *
  generalize y.c.toArray = cy at *
  go_enter Tryz.func16, Tryz.ntmps16
  go_wp2_with fail
  rw [ten hX1, ten hY1]
  obtain ⟨W, hW⟩ : ∃ W, W = (((((w.alloc (.cells cx 31)).alloc (.cells cy 31)).alloc (.cells cx 31)).alloc (.cells cy 31)).alloc (.cells #[.slice (some ⟨w.heap.size + 1 + 1, 0, Option.none⟩) 1 1, .slice (some ⟨w.heap.size + 1 + 1 + 1, 0, Option.none⟩) 1 1] 99)) := ⟨_, rfl⟩
  rw [← hW] at H0 ⊢
  clear hW hX1 hX2 hY1 hY2
  go_loopg [5] 3000 (fun μ s5 wr => ∃ (a : Ptr) (n cap : Nat), s5 = .slice a n cap ∧ n ≤ cap ∧ n ≤ 3000 ∧ Hid (μ ≤ 3000 ∧ ∃ st : Lft, n = st.length ∧ Stk (w.heap.size + 1 + 1 + 1 + 1) w wr st a cap ∧ Lft.w st ≤ μ ∧ (EZ ↔ st.same false)))
  case atStart => exact ⟨_, 1, 1, rfl, Nat.le_refl _, by decide, Lib.hid ⟨Nat.le_refl _, _, rfl, H0.out, HN.out, HS.out⟩⟩
  case round =>
    obtain ⟨a, n, cap, rfl, hnc, hn3, H⟩ := hrel
    clear H0 HN HS
    by_cases h0 : n = 0
    · subst h0
      go_wp2_with fail
      go_ret
      obtain ⟨_, st, h1, h2, _, h4⟩ := H.out
      refine ⟨⟨true, rfl, ?_⟩, h2.g⟩
      rw [h4, List.eq_nil_of_length_eq_zero h1.symm]
      simp [Lft.same]
    · obtain ⟨m, rfl⟩ : ∃ m, n = m + 1 := ⟨n - 1, by omega⟩
      obtain ⟨st, p, hst, hm, hk, hw, hs, hμ⟩ : ∃ st p, (∃ _ : True, True) ∧ m = st.length ∧ Stk (w.heap.size + 1 + 1 + 1 + 1) w wr (st ++ [p]) a cap ∧ Lft.w (st ++ [p]) ≤ gk ∧ (EZ ↔ Lft.same false (st ++ [p])) ∧ gk ≤ 3000 := by
        obtain ⟨hμ, st, h1, h2, h3, h4⟩ := H.out
        rcases List.eq_nil_or_concat st with rfl | ⟨s0, p, rfl⟩
        · simp at h1
        · exact ⟨s0, p, ⟨trivial, trivial⟩, by simp at h1; omega, by simpa using h2, by simpa using h3, by simpa using h4, hμ⟩
      obtain ⟨g, off, rfl, c0, c1⟩ := hk.top
      rw [← hm] at c0 c1
      have HE1 := Lib.hid (fun W (hW : wr.grownBy W none) => HE.out _ p.1.a p.2.a p.1.c p.2.c p.1.l p.2.l W ((hk.mem p (by simp)).1.keep (.of hW)).1 ((hk.mem p (by simp)).2.keep (.of hW)).1 ((hk.mem p (by simp)).1.keep (.of hW)).2.2 ((hk.mem p (by simp)).2.keep (.of hW)).2.2 (by
        have := Lft.w_app st [p]
        have h2 : p.1.l.length ≤ Pm.ns p.1.l := by
          generalize p.1.l = l
          induction l with
          | nil => simp
          | cons x r ih => rw [List.length_cons, Pm.ns, Pm.n_eq]; omega
        simp only [Lft.w] at this
        omega))
      have HK := Lib.hid (And.intro hm (And.intro hk (And.intro hw (And.intro hs hμ))))
      obtain ⟨⟨pa, pc, pl⟩, ⟨qa, qc, ql⟩⟩ := p
      simp only [Psl.v] at c0 c1 HE1
      clear hst hm hk hw hs H hμ h0
      go_wp2_with fail
      go_quiet (fail)
      go_wp2_with fail
      have HD := Lib.hid (show wr.grownBy (wr.drewN nq) none from grown_drewNT (grown_reflX _ _) _)
      refine (HE1.out _ HD.out).mono ?_
      rintro e w2 ⟨⟨r, rfl, hr⟩, hg⟩
      have HR := Lib.hid hr
      have G2 := Lib.hid hg
      clear hr hg
      cases r with
      | false =>
        go_wp2_with fail
        go_ret
        obtain ⟨hm, hk, _, hs, _⟩ := HK.out
        refine ⟨⟨false, rfl, ?_⟩, hk.g.trans (HD.out.trans G2.out)⟩
        rw [hs, Lft.same_app]
        have hr := HR.out
        constructor
        · intro h; cases h
        · intro h
          have h2 := h.2 _ (List.mem_singleton.2 rfl)
          exact hr.2 ((same_step false _ _).1 h2).1
      | true =>
        obtain ⟨hll, hlk⟩ := HR.out.1 rfl
        have HL := Lib.hid (And.intro hll hlk)
        clear hll hlk HR
        obtain ⟨N, hN⟩ : ∃ N, N = w.heap.size + 1 + 1 + 1 + 1 := ⟨_, rfl⟩
        have HN := Lib.hid hN
        have HK2 : Hid (Stk N w w2 st (some ⟨g, off, Option.none⟩) cap ∧ Psl.in (fun j => j < N) w2 ⟨pa, pc, pl⟩ ∧ Psl.in (fun j => j < N) w2 ⟨qa, qc, ql⟩) := Lib.hid (by
          obtain ⟨_, hk, _, _, _⟩ := HK.out
          have h2 := hk.keep (HD.out.trans G2.out)
          rw [hN]
          exact ⟨h2.pop, h2.mem (⟨pa, pc, pl⟩, ⟨qa, qc, ql⟩) (by simp)⟩)
        have HSm : Hid (pl.length ≤ 2999 ∧ m ≤ 2999) := Lib.hid (by
          obtain ⟨hm, _, hw, _, hμ⟩ := HK.out
          have h1 := Lft.w_app st [(⟨pa, pc, pl⟩, ⟨qa, qc, ql⟩)]
          have h2 := Lft.w_len st
          have h3 : pl.length ≤ Pm.ns pl := by
            generalize pl = l
            induction l with
            | nil => simp
            | cons x r ih => rw [List.length_cons, Pm.ns, Pm.n_eq]; omega
          simp only [Lft.w] at h1
          omega)
        go_wp2_with fail
        obtain ⟨K, hK⟩ : ∃ K, K = kidsP pl ql := ⟨_, rfl⟩
        obtain ⟨n, hpn⟩ : ∃ n, n = pl.length := ⟨_, rfl⟩
        have HPN := Lib.hid hpn
        have HKK := Lib.hid hK
        have hnn : n ≤ 2999 := by have := HSm.out; omega
        rw [← hpn]
        clear hN hK hpn c0 c1
        go_loopw [5, 41] (fun s5 s41 wr2 => ∃ (a' : Ptr) (n' cap' j : Nat), s5 = .slice a' n' cap' ∧ s41 = .int .i64 j ∧ j ≤ n ∧ n' ≤ 6000 ∧ Hid (∃ st2 : Lft, n' = st2.length ∧ st2 = st ++ K.take j ∧ Stk N w wr2 st2 a' cap' ∧ Stays (fun j => j < N) w2 wr2)) (fun _ s41 _ => n - (intOf s41).toNat)
        case atStart => exact ⟨_, m, cap, 0, rfl, rfl, by omega, by omega, Lib.hid ⟨st, HK.out.1, by simp, HK2.out.1, Nat.le_refl _, fun _ _ _ => rfl⟩⟩
        case round =>
          obtain ⟨a', n', cap', j, rfl, rfl, hj, hn', H⟩ := hrel
          by_cases hlt : j < n
          · obtain ⟨st2, h1, h2, h3, h4⟩ := H.out
            obtain ⟨⟨b1, o1, e1, c1⟩, i1⟩ := (HK2.out.2.1.keep h4).elem (i := j) (by rw [← HPN.out]; exact hlt)
            obtain ⟨⟨b2, o2, e2, c2⟩, i2⟩ := (HK2.out.2.2.keep h4).elem (i := j) (by rw [← HL.out.1, ← HPN.out]; exact hlt)
            simp only at e1 e2 c1 c2 i1 i2
            subst e1
            subst e2
            have HT : Hid (K.take (j + 1) = K.take j ++ [((pl.getD j default).ksl, (ql.getD j default).ksl)]) := Lib.hid (by rw [HKK.out]; exact kidsP_take pl ql j (by rw [← HPN.out]; exact hlt) HL.out.1)
            generalize (pl.getD j default).ksl = X at *
            generalize (ql.getD j default).ksl = Y at *
            have HP := Lib.hid (fun (w4 : World) (a4 : Ptr) (cap4 : Nat) (o : Obj) hw ho hb => Stk.push (p := (X, Y)) (w4 := w4) (a' := a4) (cap' := cap4) (o := o) h3 ⟨i1, i2⟩ hw ho hb)
            have HT2 := Lib.hid (And.intro h1 (And.intro h2 h4))
            have HSt := Lib.hid (fun (w4 : World) (o : Obj) ho => h3.stays (w4 := w4) (o := o) ho)
            have HLow := Lib.hid h3.low
            have HNs := Lib.hid h3.hN
            have HW3 := Lib.hid (fun (o : Obj) => h3.win.keepG (grown_drewT (World.grownBy_alloc wr o none)))
            rw [← h1] at HW3 HP
            obtain ⟨xa, xc, xl⟩ := X
            obtain ⟨ya, yc, yl⟩ := Y
            simp only [Psl.v] at c1 c2
            generalize hxl : xl.length = xn at *
            have Hxl := Lib.hid hxl
            generalize hyl : yl.length = yn at *
            have Hyl := Lib.hid hyl
            have hst2 : n' + 1 ≤ 6000 := by
              have e1 := HT2.out.1
              have e2 := HT2.out.2.1
              have e3 := HK.out.1
              have e4 : (K.take j).length ≤ j := by rw [List.length_take]; omega
              rw [e2, List.length_append] at e1
              have := HSm.out
              have := HPN.out
              omega
            have hq : j < ql.length := by rw [← HL.out.1, ← HPN.out]; exact hlt
            clear h1 h2 h3 h4 i1 i2 H hxl hyl
            go_wp2_with fail
            go_region_law (first
              | (refine step_append_win (by rfl) (.tmp 44) (.tmp 56) pair_el (by rfl) (HW3.out (.cells #[.slice xa xn xc, .slice ya yn yc] 99)) (by omega) (by rfl) ⟨wr.heap.size, 0, none⟩ 1 (by rfl) [.slice xa xn xc, .slice ya yn yc] rfl (World.news_of_block (heap_alloc_new wr _)) (by intro u hu; simp only [List.mem_cons, List.not_mem_nil, or_false] at hu; rcases hu with rfl | rfl <;> rfl) ?_
                 intro a4 cap4 w4 hk4 ho4 hb4
                 have E4 := Lib.hid (And.intro hk4 (And.intro ho4 hb4))
                 clear hk4 ho4 hb4)
              | fail)
            all_goals
              go_wp2_with fail
              go_roundw
              case rel =>
                obtain ⟨hk4, ho4, hb4⟩ := E4.out
                obtain ⟨h1, h2, h4⟩ := HT2.out
                rw [← Hxl.out, ← Hyl.out] at hk4 ho4 hb4
                exact ⟨a4, n' + 1, cap4, j + 1, rfl, by go_num, by omega, by omega, Lib.hid ⟨_, by rw [List.length_append, ← h1]; rfl, by rw [HT.out, ← List.append_assoc, ← h2], HP.out w4 a4 cap4 _ hk4 ho4 hb4, stays_trans h4 (HSt.out w4 _ ho4)⟩⟩
              case measure => simp [intOf]; omega
          · obtain rfl : j = n := by omega
            go_wp2_with fail
            obtain ⟨hm, hk, hw, hs, hμ⟩ := HK.out
            obtain ⟨st2, h1, h2, h3, _⟩ := H.out
            have hKl : K.length = j := by rw [HKK.out, kidsP_len _ _ HL.out.1, ← HPN.out]
            rw [List.take_of_length_le (Nat.le_of_eq hKl)] at h2
            have hkw : Lft.w K + j = 2 * Pm.ns pl := by rw [HKK.out, HPN.out]; exact kidsP_w pl ql HL.out.1
            have hwa := Lft.w_app st [(⟨pa, pc, pl⟩, ⟨qa, qc, ql⟩)]
            have hwb := Lft.w_app st K
            simp only [Lft.w] at hwa
            have hlen := Lft.w_len (st ++ K)
            go_roundg (Lft.w (st ++ K))
            case measure => omega
            case rel =>
              rw [← HN.out] at *
              refine ⟨a', n', cap', rfl, by have := h3.win.le; omega, by rw [h1, h2]; omega, Lib.hid ⟨by omega, st2, h1, h3, by rw [h2]; exact Nat.le_refl _, ?_⟩⟩
              rw [hs, h2, Lft.same_app, Lft.same_app]
              refine and_congr_right fun _ => ?_
              have hstep := same_step false pl ql
              rw [← HKK.out] at hstep
              constructor
              · intro h; exact (hstep.1 (h _ (List.mem_singleton.2 rfl))).2
              · intro h p hp
                obtain rfl : p = _ := List.mem_singleton.1 hp
                exact hstep.2 ⟨⟨HL.out.1, HL.out.2⟩, h⟩
end Go.Proofs.YtppigamibgefaaaGreatDoor
